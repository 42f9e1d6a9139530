/-
  NARROWER THAN 'FOR EVERY INPUT', by the rows' own cells (each row's printed sentence says how): Alls: laid · Follows: laid · Grows: laid · Shape: laid · Honest: laid · Unheard: laid · Parted: laid.
  DERIVED. THE GIVEN ROWS OF THIS SEAT. 7 by the template 'for every input the law returns true; each argument reads behind the call as it read before'; 0 by the template 'total and deterministic' (their statements: YtpibpdpedjinhaaGreatDoorTotals.lean).
  GIVEN WITH THE SEED: the statements are not yours to turn. If you find one false, say at which input.
  Laid BY PROGRAM, IN A SANDBOX (cutbox-rows.mjs): the forced cells as the released guide's own fill.sh prints them over the translation 9ab0c9d596f6dc25… (all of the seat's roots in one cut). By AI agents, Wed Nov 11 2026. No macro, syntax, notation, axiom, sorry.
-/
import Derived.Test.YtpibpdpedjinhaaGreatDoorChecked
import GoSem.Claim
import GoSem.ClaimJoined
import GoSem.ClaimMapViews
import Derived.JoinedTies
import Derived.KernelRfl
namespace Go.Proofs.YtpibpdpedjinhaaGreatDoor
/- THE CELL 'sum', in the pinned program and in every row, IS THE sha256 OF THE DUMP (.gsa) THAT YtpibpdpedjinhaaGreatDoorProg.lean LOADS. Nothing in Lean hashes anything: it is a label: what it is worth is what the hold of that sum in a sandbox is worth. -/
noncomputable def Tryz.pinned : Pinned := { name := "ytpibpdpedjinhaagreatdoor", sum := "9ab0c9d596f6dc255815e4c572c2264546591ac610dd547d8c2e2a51b9bbd2ac", checked := Tryz.checked }
namespace Rows
def none {H : Type} : Left H := { results := [], args := [] }

/- WHAT THE LISTED PACKAGE-LEVEL VARIABLES READ AS WHEN THE CALL BEGINS. Each datum BY PROGRAM (the guide's laid-datum.mjs) off the statement by which the dump's own 'gosem.cut.vars' lays the variable. In a bare row this is a premise. The card (YtpibpdpedjinhaaGreatDoorCards.lean) ties it to the program's text. -/
def laid_tributary_item_heads {H : Type} : DataW H := .agg [.agg [.lit (.bool false), .lit (.int .u8 128), .lit (.int .u8 183)], .agg [.lit (.bool true), .lit (.int .u8 192), .lit (.int .u8 247)]]
def laid_tributary_source_ErrSilent {H : Type} : DataW H := .iface "*errors.errorString" (.ptr (.agg [.lit (.string [116, 104, 101, 32, 117, 112, 112, 101, 114, 32, 99, 104, 97, 105, 110, 32, 100, 111, 101, 115, 32, 110, 111, 116, 32, 97, 110, 115, 119, 101, 114])]))

/-- 'tributarylaw.Alls': WHATEVER THE INPUT: true; the input reads as it did. -/
def allsSpec : ChangeSpec := { name := "alls", fn := fun _ => fun
  | [d1, d2] => { results := [.lit (.bool true)], args := [d1, d2] }
  | _ => none }
def allsRow : OpenClaim := { program := "ytpibpdpedjinhaagreatdoor", sum := "9ab0c9d596f6dc255815e4c572c2264546591ac610dd547d8c2e2a51b9bbd2ac", func := "tributary/tributarylaw.Alls", spec := "alls", inPlace := ["(*sync.WaitGroup).Add", "internal/race.ReleaseMerge", "internal/race.Disable", "internal/race.Enable", "internal/synctest.IsInBubble", "internal/synctest.Associate[sync.WaitGroup]", "sync.fatal", "sync/atomic.OrUint64", "sync/atomic.AddUint64", "internal/race.Read", "sync/atomic.LoadUint64", "sync/atomic.StoreUint64", "internal/synctest.Disassociate[sync.WaitGroup]", "sync.runtime_Semrelease", "(*sync.WaitGroup).Done", "(*sync.WaitGroup).Wait", "internal/race.Acquire", "internal/synctest.IsAssociated[sync.WaitGroup]", "sync/atomic.CompareAndSwapUint64", "internal/race.Write", "sync.runtime_SemacquireWaitGroup", "internal/abi.NoEscape", "internal/bytealg.MakeNoZero"], unfollowed := true, recurses := true, named := ["tributary/item.heads"], leaving := true, apart := false, laid := [("tributary/item.heads", laid_tributary_item_heads)] }
def AllsSaid : Prop := allsRow.holds Tryz.pinned (OpenSpec.ofChange allsSpec)

/-- ITS FALSE NEIGHBOUR: 'it returns false'. Refute it at one input. -/
def allsWrong : ChangeSpec := { name := "alls", fn := fun _ => fun
  | [d1, d2] => { results := [.lit (.bool false)], args := [d1, d2] }
  | _ => none }
def AllsWrongFalsely : Prop := allsRow.holds Tryz.pinned (OpenSpec.ofChange allsWrong)

/-- 'tributarylaw.Follows': WHATEVER THE INPUT: true; the input reads as it did. -/
def followsSpec : ChangeSpec := { name := "follows", fn := fun _ => fun
  | [d1, d2, d3] => { results := [.lit (.bool true)], args := [d1, d2, d3] }
  | _ => none }
def followsRow : OpenClaim := { program := "ytpibpdpedjinhaagreatdoor", sum := "9ab0c9d596f6dc255815e4c572c2264546591ac610dd547d8c2e2a51b9bbd2ac", func := "tributary/tributarylaw.Follows", spec := "follows", inPlace := ["(*sync.WaitGroup).Add", "internal/race.ReleaseMerge", "internal/race.Disable", "internal/race.Enable", "internal/synctest.IsInBubble", "internal/synctest.Associate[sync.WaitGroup]", "sync.fatal", "sync/atomic.OrUint64", "sync/atomic.AddUint64", "internal/race.Read", "sync/atomic.LoadUint64", "sync/atomic.StoreUint64", "internal/synctest.Disassociate[sync.WaitGroup]", "sync.runtime_Semrelease", "(*sync.WaitGroup).Done", "(*sync.WaitGroup).Wait", "internal/race.Acquire", "internal/synctest.IsAssociated[sync.WaitGroup]", "sync/atomic.CompareAndSwapUint64", "internal/race.Write", "sync.runtime_SemacquireWaitGroup", "internal/abi.NoEscape", "internal/bytealg.MakeNoZero"], unfollowed := true, recurses := true, named := ["tributary/source.ErrSilent", "tributary/item.heads"], leaving := true, apart := false, laid := [("tributary/item.heads", laid_tributary_item_heads), ("tributary/source.ErrSilent", laid_tributary_source_ErrSilent)] }
def FollowsSaid : Prop := followsRow.holds Tryz.pinned (OpenSpec.ofChange followsSpec)

/-- ITS FALSE NEIGHBOUR: 'it returns false'. Refute it at one input. -/
def followsWrong : ChangeSpec := { name := "follows", fn := fun _ => fun
  | [d1, d2, d3] => { results := [.lit (.bool false)], args := [d1, d2, d3] }
  | _ => none }
def FollowsWrongFalsely : Prop := followsRow.holds Tryz.pinned (OpenSpec.ofChange followsWrong)

/-- 'tributarykeep.Grows': WHATEVER THE INPUT: true; the input reads as it did. -/
def growsSpec : ChangeSpec := { name := "grows", fn := fun _ => fun
  | [d1, d2, d3] => { results := [.lit (.bool true)], args := [d1, d2, d3] }
  | _ => none }
def growsRow : OpenClaim := { program := "ytpibpdpedjinhaagreatdoor", sum := "9ab0c9d596f6dc255815e4c572c2264546591ac610dd547d8c2e2a51b9bbd2ac", func := "tributary/tributarykeep.Grows", spec := "grows", inPlace := ["(*sync.WaitGroup).Add", "internal/race.ReleaseMerge", "internal/race.Disable", "internal/race.Enable", "internal/synctest.IsInBubble", "internal/synctest.Associate[sync.WaitGroup]", "sync.fatal", "sync/atomic.OrUint64", "sync/atomic.AddUint64", "internal/race.Read", "sync/atomic.LoadUint64", "sync/atomic.StoreUint64", "internal/synctest.Disassociate[sync.WaitGroup]", "sync.runtime_Semrelease", "(*sync.WaitGroup).Done", "(*sync.WaitGroup).Wait", "internal/race.Acquire", "internal/synctest.IsAssociated[sync.WaitGroup]", "sync/atomic.CompareAndSwapUint64", "internal/race.Write", "sync.runtime_SemacquireWaitGroup", "internal/abi.NoEscape", "internal/bytealg.MakeNoZero"], unfollowed := true, recurses := true, named := ["tributary/item.heads"], leaving := true, apart := false, laid := [("tributary/item.heads", laid_tributary_item_heads)] }
def GrowsSaid : Prop := growsRow.holds Tryz.pinned (OpenSpec.ofChange growsSpec)

/-- ITS FALSE NEIGHBOUR: 'it returns false'. Refute it at one input. -/
def growsWrong : ChangeSpec := { name := "grows", fn := fun _ => fun
  | [d1, d2, d3] => { results := [.lit (.bool false)], args := [d1, d2, d3] }
  | _ => none }
def GrowsWrongFalsely : Prop := growsRow.holds Tryz.pinned (OpenSpec.ofChange growsWrong)

/-- 'tributarykeep.Shape': WHATEVER THE INPUT: true; the input reads as it did. -/
def shapeSpec : ChangeSpec := { name := "shape", fn := fun _ => fun
  | [d1, d2] => { results := [.lit (.bool true)], args := [d1, d2] }
  | _ => none }
def shapeRow : OpenClaim := { program := "ytpibpdpedjinhaagreatdoor", sum := "9ab0c9d596f6dc255815e4c572c2264546591ac610dd547d8c2e2a51b9bbd2ac", func := "tributary/tributarykeep.Shape", spec := "shape", inPlace := ["(*sync.WaitGroup).Add", "internal/race.ReleaseMerge", "internal/race.Disable", "internal/race.Enable", "internal/synctest.IsInBubble", "internal/synctest.Associate[sync.WaitGroup]", "sync.fatal", "sync/atomic.OrUint64", "sync/atomic.AddUint64", "internal/race.Read", "sync/atomic.LoadUint64", "sync/atomic.StoreUint64", "internal/synctest.Disassociate[sync.WaitGroup]", "sync.runtime_Semrelease", "(*sync.WaitGroup).Done", "(*sync.WaitGroup).Wait", "internal/race.Acquire", "internal/synctest.IsAssociated[sync.WaitGroup]", "sync/atomic.CompareAndSwapUint64", "internal/race.Write", "sync.runtime_SemacquireWaitGroup", "internal/abi.NoEscape", "internal/bytealg.MakeNoZero"], unfollowed := true, recurses := true, named := ["tributary/item.heads"], leaving := true, apart := false, laid := [("tributary/item.heads", laid_tributary_item_heads)] }
def ShapeSaid : Prop := shapeRow.holds Tryz.pinned (OpenSpec.ofChange shapeSpec)

/-- ITS FALSE NEIGHBOUR: 'it returns false'. Refute it at one input. -/
def shapeWrong : ChangeSpec := { name := "shape", fn := fun _ => fun
  | [d1, d2] => { results := [.lit (.bool false)], args := [d1, d2] }
  | _ => none }
def ShapeWrongFalsely : Prop := shapeRow.holds Tryz.pinned (OpenSpec.ofChange shapeWrong)

/-- 'tributarykeep.Honest': WHATEVER THE INPUT: true; the input reads as it did. -/
def honestSpec : ChangeSpec := { name := "honest", fn := fun _ => fun
  | [d] => { results := [.lit (.bool true)], args := [d] }
  | _ => none }
def honestRow : OpenClaim := { program := "ytpibpdpedjinhaagreatdoor", sum := "9ab0c9d596f6dc255815e4c572c2264546591ac610dd547d8c2e2a51b9bbd2ac", func := "tributary/tributarykeep.Honest", spec := "honest", inPlace := ["(*sync.WaitGroup).Add", "internal/race.ReleaseMerge", "internal/race.Disable", "internal/race.Enable", "internal/synctest.IsInBubble", "internal/synctest.Associate[sync.WaitGroup]", "sync.fatal", "sync/atomic.OrUint64", "sync/atomic.AddUint64", "internal/race.Read", "sync/atomic.LoadUint64", "sync/atomic.StoreUint64", "internal/synctest.Disassociate[sync.WaitGroup]", "sync.runtime_Semrelease", "(*sync.WaitGroup).Done", "(*sync.WaitGroup).Wait", "internal/race.Acquire", "internal/synctest.IsAssociated[sync.WaitGroup]", "sync/atomic.CompareAndSwapUint64", "internal/race.Write", "sync.runtime_SemacquireWaitGroup", "internal/abi.NoEscape", "internal/bytealg.MakeNoZero"], unfollowed := true, recurses := true, named := ["tributary/item.heads"], leaving := true, apart := false, laid := [("tributary/item.heads", laid_tributary_item_heads)] }
def HonestSaid : Prop := honestRow.holds Tryz.pinned (OpenSpec.ofChange honestSpec)

/-- ITS FALSE NEIGHBOUR: 'it returns false'. Refute it at one input. -/
def honestWrong : ChangeSpec := { name := "honest", fn := fun _ => fun
  | [d] => { results := [.lit (.bool false)], args := [d] }
  | _ => none }
def HonestWrongFalsely : Prop := honestRow.holds Tryz.pinned (OpenSpec.ofChange honestWrong)

/-- 'tributarykeep.Unheard': WHATEVER THE INPUT: true; the input reads as it did. -/
def unheardSpec : ChangeSpec := { name := "unheard", fn := fun _ => fun
  | [d1, d2, d3, d4] => { results := [.lit (.bool true)], args := [d1, d2, d3, d4] }
  | _ => none }
def unheardRow : OpenClaim := { program := "ytpibpdpedjinhaagreatdoor", sum := "9ab0c9d596f6dc255815e4c572c2264546591ac610dd547d8c2e2a51b9bbd2ac", func := "tributary/tributarykeep.Unheard", spec := "unheard", inPlace := ["(*sync.WaitGroup).Add", "internal/race.ReleaseMerge", "internal/race.Disable", "internal/race.Enable", "internal/synctest.IsInBubble", "internal/synctest.Associate[sync.WaitGroup]", "sync.fatal", "sync/atomic.OrUint64", "sync/atomic.AddUint64", "internal/race.Read", "sync/atomic.LoadUint64", "sync/atomic.StoreUint64", "internal/synctest.Disassociate[sync.WaitGroup]", "sync.runtime_Semrelease", "(*sync.WaitGroup).Done", "(*sync.WaitGroup).Wait", "internal/race.Acquire", "internal/synctest.IsAssociated[sync.WaitGroup]", "sync/atomic.CompareAndSwapUint64", "internal/race.Write", "sync.runtime_SemacquireWaitGroup", "internal/abi.NoEscape", "internal/bytealg.MakeNoZero"], unfollowed := true, recurses := true, named := ["tributary/item.heads"], leaving := true, apart := false, laid := [("tributary/item.heads", laid_tributary_item_heads)] }
def UnheardSaid : Prop := unheardRow.holds Tryz.pinned (OpenSpec.ofChange unheardSpec)

/-- ITS FALSE NEIGHBOUR: 'it returns false'. Refute it at one input. -/
def unheardWrong : ChangeSpec := { name := "unheard", fn := fun _ => fun
  | [d1, d2, d3, d4] => { results := [.lit (.bool false)], args := [d1, d2, d3, d4] }
  | _ => none }
def UnheardWrongFalsely : Prop := unheardRow.holds Tryz.pinned (OpenSpec.ofChange unheardWrong)

/-- 'tributarykeep.Parted': WHATEVER THE INPUT: true; the input reads as it did. -/
def partedSpec : ChangeSpec := { name := "parted", fn := fun _ => fun
  | [d1, d2, d3] => { results := [.lit (.bool true)], args := [d1, d2, d3] }
  | _ => none }
def partedRow : OpenClaim := { program := "ytpibpdpedjinhaagreatdoor", sum := "9ab0c9d596f6dc255815e4c572c2264546591ac610dd547d8c2e2a51b9bbd2ac", func := "tributary/tributarykeep.Parted", spec := "parted", inPlace := ["(*sync.WaitGroup).Add", "internal/race.ReleaseMerge", "internal/race.Disable", "internal/race.Enable", "internal/synctest.IsInBubble", "internal/synctest.Associate[sync.WaitGroup]", "sync.fatal", "sync/atomic.OrUint64", "sync/atomic.AddUint64", "internal/race.Read", "sync/atomic.LoadUint64", "sync/atomic.StoreUint64", "internal/synctest.Disassociate[sync.WaitGroup]", "sync.runtime_Semrelease", "(*sync.WaitGroup).Done", "(*sync.WaitGroup).Wait", "internal/race.Acquire", "internal/synctest.IsAssociated[sync.WaitGroup]", "sync/atomic.CompareAndSwapUint64", "internal/race.Write", "sync.runtime_SemacquireWaitGroup", "internal/abi.NoEscape", "internal/bytealg.MakeNoZero"], unfollowed := true, recurses := true, named := ["tributary/item.heads"], leaving := true, apart := false, laid := [("tributary/item.heads", laid_tributary_item_heads)] }
def PartedSaid : Prop := partedRow.holds Tryz.pinned (OpenSpec.ofChange partedSpec)

/-- ITS FALSE NEIGHBOUR: 'it returns false'. Refute it at one input. -/
def partedWrong : ChangeSpec := { name := "parted", fn := fun _ => fun
  | [d1, d2, d3] => { results := [.lit (.bool false)], args := [d1, d2, d3] }
  | _ => none }
def PartedWrongFalsely : Prop := partedRow.holds Tryz.pinned (OpenSpec.ofChange partedWrong)

/- THE SECOND FORM. 'bulk': how many values and letters a reading holds, each counted each time it is reached (what is shared counts as often as it is met; a slice's spare places count too). A statement '..UptoSaid' is the law's where the arguments, and the package variables that the reading takes, are together of bulk at most 1048576: NARROWER than '..Said'. Prove '..Said' where nothing that the law and all that it calls make is longer than what came in: it says more and counts as full. Else prove '..UptoSaid'. A law counts once. -/
mutual
def uptoBulk {H : Type} : DataW H → Nat
  | .lit (.string bytes) => bytes.length + 1
  | .lit _ => 1
  | .nil => 1
  | .ptr d => uptoBulk d + 1
  | .slice elems spare => uptoBulkAll elems + uptoBulkAll spare + 1
  | .agg parts => uptoBulkAll parts + 1
  | .iface _ d => uptoBulk d + 1
  | .map entries => uptoBulkEntries entries + 1
  | .held _ => 1
def uptoBulkAll {H : Type} : List (DataW H) → Nat
  | [] => 0
  | d :: r => uptoBulk d + uptoBulkAll r
def uptoBulkEntries {H : Type} : List (Lit × DataW H) → Nat
  | [] => 0
  | x :: r => uptoBulkEntry x + uptoBulkEntries r
def uptoBulkEntry {H : Type} : Lit × DataW H → Nat
  | (.string bytes, d) => bytes.length + uptoBulk d + 1
  | (_, d) => uptoBulk d + 1
 end
def uptoSmall : (H : Type) → List (DataW H) → Bool := fun _ ds => decide (uptoBulkAll ds ≤ 1048576)
def OpenSpec.upto (s : _root_.Go.ChangeSpec) : _root_.Go.OpenSpec := { _root_.Go.OpenSpec.ofChange s with cond := some uptoSmall }

/-- 'tributarylaw.Alls', WHERE WHAT IT READS IS OF BULK AT MOST 1048576: true; the input reads as it did. -/
def allsUptoRow : OpenClaim := { program := "ytpibpdpedjinhaagreatdoor", sum := "9ab0c9d596f6dc255815e4c572c2264546591ac610dd547d8c2e2a51b9bbd2ac", func := "tributary/tributarylaw.Alls", spec := "alls", inPlace := ["(*sync.WaitGroup).Add", "internal/race.ReleaseMerge", "internal/race.Disable", "internal/race.Enable", "internal/synctest.IsInBubble", "internal/synctest.Associate[sync.WaitGroup]", "sync.fatal", "sync/atomic.OrUint64", "sync/atomic.AddUint64", "internal/race.Read", "sync/atomic.LoadUint64", "sync/atomic.StoreUint64", "internal/synctest.Disassociate[sync.WaitGroup]", "sync.runtime_Semrelease", "(*sync.WaitGroup).Done", "(*sync.WaitGroup).Wait", "internal/race.Acquire", "internal/synctest.IsAssociated[sync.WaitGroup]", "sync/atomic.CompareAndSwapUint64", "internal/race.Write", "sync.runtime_SemacquireWaitGroup", "internal/abi.NoEscape", "internal/bytealg.MakeNoZero"], unfollowed := true, recurses := true, named := ["tributary/item.heads"], leaving := true, apart := false, laid := [("tributary/item.heads", laid_tributary_item_heads)], narrowed := true }
def AllsUptoSaid : Prop := allsUptoRow.holds Tryz.pinned (OpenSpec.upto allsSpec)

/-- 'tributarylaw.Follows', WHERE WHAT IT READS IS OF BULK AT MOST 1048576: true; the input reads as it did. -/
def followsUptoRow : OpenClaim := { program := "ytpibpdpedjinhaagreatdoor", sum := "9ab0c9d596f6dc255815e4c572c2264546591ac610dd547d8c2e2a51b9bbd2ac", func := "tributary/tributarylaw.Follows", spec := "follows", inPlace := ["(*sync.WaitGroup).Add", "internal/race.ReleaseMerge", "internal/race.Disable", "internal/race.Enable", "internal/synctest.IsInBubble", "internal/synctest.Associate[sync.WaitGroup]", "sync.fatal", "sync/atomic.OrUint64", "sync/atomic.AddUint64", "internal/race.Read", "sync/atomic.LoadUint64", "sync/atomic.StoreUint64", "internal/synctest.Disassociate[sync.WaitGroup]", "sync.runtime_Semrelease", "(*sync.WaitGroup).Done", "(*sync.WaitGroup).Wait", "internal/race.Acquire", "internal/synctest.IsAssociated[sync.WaitGroup]", "sync/atomic.CompareAndSwapUint64", "internal/race.Write", "sync.runtime_SemacquireWaitGroup", "internal/abi.NoEscape", "internal/bytealg.MakeNoZero"], unfollowed := true, recurses := true, named := ["tributary/source.ErrSilent", "tributary/item.heads"], leaving := true, apart := false, laid := [("tributary/item.heads", laid_tributary_item_heads), ("tributary/source.ErrSilent", laid_tributary_source_ErrSilent)], narrowed := true }
def FollowsUptoSaid : Prop := followsUptoRow.holds Tryz.pinned (OpenSpec.upto followsSpec)

/-- 'tributarykeep.Grows', WHERE WHAT IT READS IS OF BULK AT MOST 1048576: true; the input reads as it did. -/
def growsUptoRow : OpenClaim := { program := "ytpibpdpedjinhaagreatdoor", sum := "9ab0c9d596f6dc255815e4c572c2264546591ac610dd547d8c2e2a51b9bbd2ac", func := "tributary/tributarykeep.Grows", spec := "grows", inPlace := ["(*sync.WaitGroup).Add", "internal/race.ReleaseMerge", "internal/race.Disable", "internal/race.Enable", "internal/synctest.IsInBubble", "internal/synctest.Associate[sync.WaitGroup]", "sync.fatal", "sync/atomic.OrUint64", "sync/atomic.AddUint64", "internal/race.Read", "sync/atomic.LoadUint64", "sync/atomic.StoreUint64", "internal/synctest.Disassociate[sync.WaitGroup]", "sync.runtime_Semrelease", "(*sync.WaitGroup).Done", "(*sync.WaitGroup).Wait", "internal/race.Acquire", "internal/synctest.IsAssociated[sync.WaitGroup]", "sync/atomic.CompareAndSwapUint64", "internal/race.Write", "sync.runtime_SemacquireWaitGroup", "internal/abi.NoEscape", "internal/bytealg.MakeNoZero"], unfollowed := true, recurses := true, named := ["tributary/item.heads"], leaving := true, apart := false, laid := [("tributary/item.heads", laid_tributary_item_heads)], narrowed := true }
def GrowsUptoSaid : Prop := growsUptoRow.holds Tryz.pinned (OpenSpec.upto growsSpec)

/-- 'tributarykeep.Shape', WHERE WHAT IT READS IS OF BULK AT MOST 1048576: true; the input reads as it did. -/
def shapeUptoRow : OpenClaim := { program := "ytpibpdpedjinhaagreatdoor", sum := "9ab0c9d596f6dc255815e4c572c2264546591ac610dd547d8c2e2a51b9bbd2ac", func := "tributary/tributarykeep.Shape", spec := "shape", inPlace := ["(*sync.WaitGroup).Add", "internal/race.ReleaseMerge", "internal/race.Disable", "internal/race.Enable", "internal/synctest.IsInBubble", "internal/synctest.Associate[sync.WaitGroup]", "sync.fatal", "sync/atomic.OrUint64", "sync/atomic.AddUint64", "internal/race.Read", "sync/atomic.LoadUint64", "sync/atomic.StoreUint64", "internal/synctest.Disassociate[sync.WaitGroup]", "sync.runtime_Semrelease", "(*sync.WaitGroup).Done", "(*sync.WaitGroup).Wait", "internal/race.Acquire", "internal/synctest.IsAssociated[sync.WaitGroup]", "sync/atomic.CompareAndSwapUint64", "internal/race.Write", "sync.runtime_SemacquireWaitGroup", "internal/abi.NoEscape", "internal/bytealg.MakeNoZero"], unfollowed := true, recurses := true, named := ["tributary/item.heads"], leaving := true, apart := false, laid := [("tributary/item.heads", laid_tributary_item_heads)], narrowed := true }
def ShapeUptoSaid : Prop := shapeUptoRow.holds Tryz.pinned (OpenSpec.upto shapeSpec)

/-- 'tributarykeep.Honest', WHERE WHAT IT READS IS OF BULK AT MOST 1048576: true; the input reads as it did. -/
def honestUptoRow : OpenClaim := { program := "ytpibpdpedjinhaagreatdoor", sum := "9ab0c9d596f6dc255815e4c572c2264546591ac610dd547d8c2e2a51b9bbd2ac", func := "tributary/tributarykeep.Honest", spec := "honest", inPlace := ["(*sync.WaitGroup).Add", "internal/race.ReleaseMerge", "internal/race.Disable", "internal/race.Enable", "internal/synctest.IsInBubble", "internal/synctest.Associate[sync.WaitGroup]", "sync.fatal", "sync/atomic.OrUint64", "sync/atomic.AddUint64", "internal/race.Read", "sync/atomic.LoadUint64", "sync/atomic.StoreUint64", "internal/synctest.Disassociate[sync.WaitGroup]", "sync.runtime_Semrelease", "(*sync.WaitGroup).Done", "(*sync.WaitGroup).Wait", "internal/race.Acquire", "internal/synctest.IsAssociated[sync.WaitGroup]", "sync/atomic.CompareAndSwapUint64", "internal/race.Write", "sync.runtime_SemacquireWaitGroup", "internal/abi.NoEscape", "internal/bytealg.MakeNoZero"], unfollowed := true, recurses := true, named := ["tributary/item.heads"], leaving := true, apart := false, laid := [("tributary/item.heads", laid_tributary_item_heads)], narrowed := true }
def HonestUptoSaid : Prop := honestUptoRow.holds Tryz.pinned (OpenSpec.upto honestSpec)

/-- 'tributarykeep.Unheard', WHERE WHAT IT READS IS OF BULK AT MOST 1048576: true; the input reads as it did. -/
def unheardUptoRow : OpenClaim := { program := "ytpibpdpedjinhaagreatdoor", sum := "9ab0c9d596f6dc255815e4c572c2264546591ac610dd547d8c2e2a51b9bbd2ac", func := "tributary/tributarykeep.Unheard", spec := "unheard", inPlace := ["(*sync.WaitGroup).Add", "internal/race.ReleaseMerge", "internal/race.Disable", "internal/race.Enable", "internal/synctest.IsInBubble", "internal/synctest.Associate[sync.WaitGroup]", "sync.fatal", "sync/atomic.OrUint64", "sync/atomic.AddUint64", "internal/race.Read", "sync/atomic.LoadUint64", "sync/atomic.StoreUint64", "internal/synctest.Disassociate[sync.WaitGroup]", "sync.runtime_Semrelease", "(*sync.WaitGroup).Done", "(*sync.WaitGroup).Wait", "internal/race.Acquire", "internal/synctest.IsAssociated[sync.WaitGroup]", "sync/atomic.CompareAndSwapUint64", "internal/race.Write", "sync.runtime_SemacquireWaitGroup", "internal/abi.NoEscape", "internal/bytealg.MakeNoZero"], unfollowed := true, recurses := true, named := ["tributary/item.heads"], leaving := true, apart := false, laid := [("tributary/item.heads", laid_tributary_item_heads)], narrowed := true }
def UnheardUptoSaid : Prop := unheardUptoRow.holds Tryz.pinned (OpenSpec.upto unheardSpec)

/-- 'tributarykeep.Parted', WHERE WHAT IT READS IS OF BULK AT MOST 1048576: true; the input reads as it did. -/
def partedUptoRow : OpenClaim := { program := "ytpibpdpedjinhaagreatdoor", sum := "9ab0c9d596f6dc255815e4c572c2264546591ac610dd547d8c2e2a51b9bbd2ac", func := "tributary/tributarykeep.Parted", spec := "parted", inPlace := ["(*sync.WaitGroup).Add", "internal/race.ReleaseMerge", "internal/race.Disable", "internal/race.Enable", "internal/synctest.IsInBubble", "internal/synctest.Associate[sync.WaitGroup]", "sync.fatal", "sync/atomic.OrUint64", "sync/atomic.AddUint64", "internal/race.Read", "sync/atomic.LoadUint64", "sync/atomic.StoreUint64", "internal/synctest.Disassociate[sync.WaitGroup]", "sync.runtime_Semrelease", "(*sync.WaitGroup).Done", "(*sync.WaitGroup).Wait", "internal/race.Acquire", "internal/synctest.IsAssociated[sync.WaitGroup]", "sync/atomic.CompareAndSwapUint64", "internal/race.Write", "sync.runtime_SemacquireWaitGroup", "internal/abi.NoEscape", "internal/bytealg.MakeNoZero"], unfollowed := true, recurses := true, named := ["tributary/item.heads"], leaving := true, apart := false, laid := [("tributary/item.heads", laid_tributary_item_heads)], narrowed := true }
def PartedUptoSaid : Prop := partedUptoRow.holds Tryz.pinned (OpenSpec.upto partedSpec)

end Rows
end Go.Proofs.YtpibpdpedjinhaaGreatDoor
