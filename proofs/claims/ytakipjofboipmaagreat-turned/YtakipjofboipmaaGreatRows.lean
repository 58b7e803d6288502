/-
  NARROWER THAN 'FOR EVERY INPUT', by the rows' own cells (each row's printed sentence says how): Serial: calm · Group: calm.
  DERIVED. THE GIVEN ROWS OF THIS SEAT. 8 by the template 'for every input the law returns true; each argument reads behind the call as it read before'; 0 by the template 'total and deterministic' (their statements: YtakipjofboipmaaGreatTotals.lean).
  GIVEN WITH THE SEED: the statements are not yours to turn. If you find one false, say at which input.
  Laid BY PROGRAM, IN A SANDBOX (cutbox-rows.mjs): the forced cells as the released guide's own fill.sh prints them over the translation b16ceb0f2b34d110… (all of the seat's roots in one cut). By AI agents, Wed Nov 11 2026. No macro, syntax, notation, axiom, sorry.
-/
import Derived.Test.YtakipjofboipmaaGreatChecked
import GoSem.Claim
import GoSem.ClaimJoined
import GoSem.ClaimMapViews
import Derived.JoinedTies
import Derived.KernelRfl
namespace Go.Proofs.YtakipjofboipmaaGreat
/- THE CELL 'sum', in the pinned program and in every row, IS THE sha256 OF THE DUMP (.gsa) THAT YtakipjofboipmaaGreatProg.lean LOADS. Nothing in Lean hashes anything: it is a label: what it is worth is what the hold of that sum in a sandbox is worth. -/
noncomputable def Tryz.pinned : Pinned := { name := "ytakipjofboipmaagreat", sum := "b16ceb0f2b34d110c3f1198f7d67da5dac6e80af1ea2eaf85240bc154b4a713d", checked := Tryz.checked }
namespace Rows
def none {H : Type} : Left H := { results := [], args := [] }

/-- 'silokeep.Told': WHATEVER THE INPUT: true; the input reads as it did. -/
def toldSpec : ChangeSpec := { name := "told", fn := fun _ => fun
  | [d] => { results := [.lit (.bool true)], args := [d] }
  | _ => none }
def toldRow : OpenClaim := { program := "ytakipjofboipmaagreat", sum := "b16ceb0f2b34d110c3f1198f7d67da5dac6e80af1ea2eaf85240bc154b4a713d", func := "silo/silokeep.Told", spec := "told", inPlace := ["internal/bytealg.abigen_runtime_cmpstring", "slices.overlaps[silo/table.Laid]"], unfollowed := true, recurses := true, leaving := true, apart := false }
def ToldSaid : Prop := toldRow.holds Tryz.pinned (OpenSpec.ofChange toldSpec)

/-- ITS FALSE NEIGHBOUR: 'it returns false'. Refute it at one input. -/
def toldWrong : ChangeSpec := { name := "told", fn := fun _ => fun
  | [d] => { results := [.lit (.bool false)], args := [d] }
  | _ => none }
def ToldWrongFalsely : Prop := toldRow.holds Tryz.pinned (OpenSpec.ofChange toldWrong)

/-- 'silokeep.Unseen': WHATEVER THE INPUT: true; the input reads as it did. -/
def unseenSpec : ChangeSpec := { name := "unseen", fn := fun _ => fun
  | [d] => { results := [.lit (.bool true)], args := [d] }
  | _ => none }
def unseenRow : OpenClaim := { program := "ytakipjofboipmaagreat", sum := "b16ceb0f2b34d110c3f1198f7d67da5dac6e80af1ea2eaf85240bc154b4a713d", func := "silo/silokeep.Unseen", spec := "unseen", inPlace := ["internal/bytealg.abigen_runtime_cmpstring", "slices.overlaps[silo/table.Laid]"], unfollowed := true, recurses := true, leaving := true, apart := false }
def UnseenSaid : Prop := unseenRow.holds Tryz.pinned (OpenSpec.ofChange unseenSpec)

/-- ITS FALSE NEIGHBOUR: 'it returns false'. Refute it at one input. -/
def unseenWrong : ChangeSpec := { name := "unseen", fn := fun _ => fun
  | [d] => { results := [.lit (.bool false)], args := [d] }
  | _ => none }
def UnseenWrongFalsely : Prop := unseenRow.holds Tryz.pinned (OpenSpec.ofChange unseenWrong)

/-- 'silokeep.Shaped': WHATEVER THE INPUT: true; the input reads as it did. -/
def shapedSpec : ChangeSpec := { name := "shaped", fn := fun _ => fun
  | [d] => { results := [.lit (.bool true)], args := [d] }
  | _ => none }
def shapedRow : OpenClaim := { program := "ytakipjofboipmaagreat", sum := "b16ceb0f2b34d110c3f1198f7d67da5dac6e80af1ea2eaf85240bc154b4a713d", func := "silo/silokeep.Shaped", spec := "shaped", inPlace := ["internal/bytealg.abigen_runtime_cmpstring", "slices.overlaps[silo/table.Laid]"], unfollowed := true, recurses := true, leaving := true, apart := false }
def ShapedSaid : Prop := shapedRow.holds Tryz.pinned (OpenSpec.ofChange shapedSpec)

/-- ITS FALSE NEIGHBOUR: 'it returns false'. Refute it at one input. -/
def shapedWrong : ChangeSpec := { name := "shaped", fn := fun _ => fun
  | [d] => { results := [.lit (.bool false)], args := [d] }
  | _ => none }
def ShapedWrongFalsely : Prop := shapedRow.holds Tryz.pinned (OpenSpec.ofChange shapedWrong)

/-- 'silokeep.Prefix': WHATEVER THE INPUT: true; the input reads as it did. -/
def prefixSpec : ChangeSpec := { name := "prefix", fn := fun _ => fun
  | [d] => { results := [.lit (.bool true)], args := [d] }
  | _ => none }
def prefixRow : OpenClaim := { program := "ytakipjofboipmaagreat", sum := "b16ceb0f2b34d110c3f1198f7d67da5dac6e80af1ea2eaf85240bc154b4a713d", func := "silo/silokeep.Prefix", spec := "prefix", inPlace := ["internal/bytealg.abigen_runtime_cmpstring", "slices.overlaps[silo/table.Laid]"], unfollowed := true, recurses := true, leaving := true, apart := false }
def PrefixSaid : Prop := prefixRow.holds Tryz.pinned (OpenSpec.ofChange prefixSpec)

/-- ITS FALSE NEIGHBOUR: 'it returns false'. Refute it at one input. -/
def prefixWrong : ChangeSpec := { name := "prefix", fn := fun _ => fun
  | [d] => { results := [.lit (.bool false)], args := [d] }
  | _ => none }
def PrefixWrongFalsely : Prop := prefixRow.holds Tryz.pinned (OpenSpec.ofChange prefixWrong)

/-- 'silokeep.Kept': WHATEVER THE INPUT: true; the input reads as it did. -/
def keptSpec : ChangeSpec := { name := "kept", fn := fun _ => fun
  | [d1, d2] => { results := [.lit (.bool true)], args := [d1, d2] }
  | _ => none }
def keptRow : OpenClaim := { program := "ytakipjofboipmaagreat", sum := "b16ceb0f2b34d110c3f1198f7d67da5dac6e80af1ea2eaf85240bc154b4a713d", func := "silo/silokeep.Kept", spec := "kept", inPlace := ["internal/bytealg.abigen_runtime_cmpstring", "slices.overlaps[silo/table.Laid]"], unfollowed := true, recurses := true, leaving := true, apart := false }
def KeptSaid : Prop := keptRow.holds Tryz.pinned (OpenSpec.ofChange keptSpec)

/-- ITS FALSE NEIGHBOUR: 'it returns false'. Refute it at one input. -/
def keptWrong : ChangeSpec := { name := "kept", fn := fun _ => fun
  | [d1, d2] => { results := [.lit (.bool false)], args := [d1, d2] }
  | _ => none }
def KeptWrongFalsely : Prop := keptRow.holds Tryz.pinned (OpenSpec.ofChange keptWrong)

/-- 'silokeep.Turned': WHATEVER THE INPUT: true; the input reads as it did. -/
def turnedSpec : ChangeSpec := { name := "turned", fn := fun _ => fun
  | [d1, d2, d3] => { results := [.lit (.bool true)], args := [d1, d2, d3] }
  | _ => none }
def turnedRow : OpenClaim := { program := "ytakipjofboipmaagreat", sum := "b16ceb0f2b34d110c3f1198f7d67da5dac6e80af1ea2eaf85240bc154b4a713d", func := "silo/silokeep.Turned", spec := "turned", inPlace := ["internal/bytealg.abigen_runtime_cmpstring"], unfollowed := true, recurses := true, leaving := true, apart := false }
def TurnedSaid : Prop := turnedRow.holds Tryz.pinned (OpenSpec.ofChange turnedSpec)

/-- ITS FALSE NEIGHBOUR: 'it returns false'. Refute it at one input. -/
def turnedWrong : ChangeSpec := { name := "turned", fn := fun _ => fun
  | [d1, d2, d3] => { results := [.lit (.bool false)], args := [d1, d2, d3] }
  | _ => none }
def TurnedWrongFalsely : Prop := turnedRow.holds Tryz.pinned (OpenSpec.ofChange turnedWrong)

/-- 'silokeep.Serial': WHATEVER THE INPUT: true; the input reads as it did. -/
def serialSpec : ChangeSpec := { name := "serial", fn := fun _ => fun
  | [d1, d2, d3] => { results := [.lit (.bool true)], args := [d1, d2, d3] }
  | _ => none }
def serialRow : OpenClaim := { program := "ytakipjofboipmaagreat", sum := "b16ceb0f2b34d110c3f1198f7d67da5dac6e80af1ea2eaf85240bc154b4a713d", func := "silo/silokeep.Serial", spec := "serial", inPlace := ["internal/bytealg.abigen_runtime_cmpstring", "slices.overlaps[silo/table.Laid]", "(*sync.WaitGroup).Add", "internal/race.ReleaseMerge", "internal/race.Disable", "internal/race.Enable", "internal/synctest.IsInBubble", "internal/synctest.Associate[sync.WaitGroup]", "sync.fatal", "sync/atomic.OrUint64", "sync/atomic.AddUint64", "internal/race.Read", "sync/atomic.LoadUint64", "sync/atomic.StoreUint64", "internal/synctest.Disassociate[sync.WaitGroup]", "sync.runtime_Semrelease", "(*sync.WaitGroup).Done", "(*internal/sync.Mutex).Lock", "sync/atomic.CompareAndSwapInt32", "internal/race.Acquire", "(*internal/sync.Mutex).lockSlow", "internal/sync.runtime_canSpin", "internal/sync.runtime_doSpin", "internal/sync.throw", "internal/sync.runtime_nanotime", "internal/sync.runtime_SemacquireMutex", "sync/atomic.AddInt32", "(*internal/sync.Mutex).Unlock", "(*internal/sync.Mutex).unlockSlow", "internal/sync.fatal", "internal/sync.runtime_Semrelease", "(*sync.WaitGroup).Wait", "internal/synctest.IsAssociated[sync.WaitGroup]", "sync/atomic.CompareAndSwapUint64", "internal/race.Write", "sync.runtime_SemacquireWaitGroup"], unfollowed := true, recurses := true, leaving := true, apart := false, calm := true, outside := [.timePasses] }
def SerialSaid : Prop := serialRow.holds Tryz.pinned (OpenSpec.ofChange serialSpec)

/-- ITS FALSE NEIGHBOUR: 'it returns false'. Refute it at one input. -/
def serialWrong : ChangeSpec := { name := "serial", fn := fun _ => fun
  | [d1, d2, d3] => { results := [.lit (.bool false)], args := [d1, d2, d3] }
  | _ => none }
def SerialWrongFalsely : Prop := serialRow.holds Tryz.pinned (OpenSpec.ofChange serialWrong)

/-- 'silokeep.Group': WHATEVER THE INPUT: true; the input reads as it did. -/
def groupSpec : ChangeSpec := { name := "group", fn := fun _ => fun
  | [d1, d2] => { results := [.lit (.bool true)], args := [d1, d2] }
  | _ => none }
def groupRow : OpenClaim := { program := "ytakipjofboipmaagreat", sum := "b16ceb0f2b34d110c3f1198f7d67da5dac6e80af1ea2eaf85240bc154b4a713d", func := "silo/silokeep.Group", spec := "group", inPlace := ["(*sync.WaitGroup).Add", "internal/race.ReleaseMerge", "internal/race.Disable", "internal/race.Enable", "internal/synctest.IsInBubble", "internal/synctest.Associate[sync.WaitGroup]", "sync.fatal", "sync/atomic.OrUint64", "sync/atomic.AddUint64", "internal/race.Read", "sync/atomic.LoadUint64", "sync/atomic.StoreUint64", "internal/synctest.Disassociate[sync.WaitGroup]", "sync.runtime_Semrelease", "(*sync.WaitGroup).Done", "(*internal/sync.Mutex).Lock", "sync/atomic.CompareAndSwapInt32", "internal/race.Acquire", "(*internal/sync.Mutex).lockSlow", "internal/sync.runtime_canSpin", "internal/sync.runtime_doSpin", "internal/sync.throw", "internal/sync.runtime_nanotime", "internal/sync.runtime_SemacquireMutex", "sync/atomic.AddInt32", "(*internal/sync.Mutex).Unlock", "(*internal/sync.Mutex).unlockSlow", "internal/sync.fatal", "internal/sync.runtime_Semrelease", "internal/bytealg.abigen_runtime_cmpstring", "slices.overlaps[silo/table.Laid]", "(*sync.WaitGroup).Wait", "internal/synctest.IsAssociated[sync.WaitGroup]", "sync/atomic.CompareAndSwapUint64", "internal/race.Write", "sync.runtime_SemacquireWaitGroup"], unfollowed := true, recurses := true, leaving := true, apart := false, calm := true, outside := [.timePasses] }
def GroupSaid : Prop := groupRow.holds Tryz.pinned (OpenSpec.ofChange groupSpec)

/-- ITS FALSE NEIGHBOUR: 'it returns false'. Refute it at one input. -/
def groupWrong : ChangeSpec := { name := "group", fn := fun _ => fun
  | [d1, d2] => { results := [.lit (.bool false)], args := [d1, d2] }
  | _ => none }
def GroupWrongFalsely : Prop := groupRow.holds Tryz.pinned (OpenSpec.ofChange groupWrong)

/- THE SECOND FORM. 'bulk': how many values and letters a reading holds, each counted each time it is reached (what is shared counts as often as it is met; a slice's spare places count too). A statement '..UptoSaid' is the law's where the arguments, and the package variables that the reading takes, are together of bulk at most 1048576: NARROWER than '..Said'. Prove '..Said' where nothing that the law and all that it calls make is longer than what came in: it says more and counts as full. Else prove '..UptoSaid'. A law counts once. -/
mutual
def uptoBulk {H : Type} : DataW H → Nat
  | .lit (.string bytes) => bytes.length + 1
  | .lit _ => 1
  | .nil => 1
  | .ptr d => uptoBulk d + 1
  | .slice elems spare => uptoBulkAll elems + uptoBulkAll spare + 1
  | .agg parts => uptoBulkAll parts + 1
  | .iface _ d => uptoBulk d + 1
  | .map entries => uptoBulkEntries entries + 1
  | .held _ => 1
def uptoBulkAll {H : Type} : List (DataW H) → Nat
  | [] => 0
  | d :: r => uptoBulk d + uptoBulkAll r
def uptoBulkEntries {H : Type} : List (Lit × DataW H) → Nat
  | [] => 0
  | x :: r => uptoBulkEntry x + uptoBulkEntries r
def uptoBulkEntry {H : Type} : Lit × DataW H → Nat
  | (.string bytes, d) => bytes.length + uptoBulk d + 1
  | (_, d) => uptoBulk d + 1
 end
def uptoSmall : (H : Type) → List (DataW H) → Bool := fun _ ds => decide (uptoBulkAll ds ≤ 1048576)
def OpenSpec.upto (s : _root_.Go.ChangeSpec) : _root_.Go.OpenSpec := { _root_.Go.OpenSpec.ofChange s with cond := some uptoSmall }

/-- 'silokeep.Told', WHERE WHAT IT READS IS OF BULK AT MOST 1048576: true; the input reads as it did. -/
def toldUptoRow : OpenClaim := { program := "ytakipjofboipmaagreat", sum := "b16ceb0f2b34d110c3f1198f7d67da5dac6e80af1ea2eaf85240bc154b4a713d", func := "silo/silokeep.Told", spec := "told", inPlace := ["internal/bytealg.abigen_runtime_cmpstring", "slices.overlaps[silo/table.Laid]"], unfollowed := true, recurses := true, leaving := true, apart := false, narrowed := true }
def ToldUptoSaid : Prop := toldUptoRow.holds Tryz.pinned (OpenSpec.upto toldSpec)

/-- 'silokeep.Unseen', WHERE WHAT IT READS IS OF BULK AT MOST 1048576: true; the input reads as it did. -/
def unseenUptoRow : OpenClaim := { program := "ytakipjofboipmaagreat", sum := "b16ceb0f2b34d110c3f1198f7d67da5dac6e80af1ea2eaf85240bc154b4a713d", func := "silo/silokeep.Unseen", spec := "unseen", inPlace := ["internal/bytealg.abigen_runtime_cmpstring", "slices.overlaps[silo/table.Laid]"], unfollowed := true, recurses := true, leaving := true, apart := false, narrowed := true }
def UnseenUptoSaid : Prop := unseenUptoRow.holds Tryz.pinned (OpenSpec.upto unseenSpec)

/-- 'silokeep.Shaped', WHERE WHAT IT READS IS OF BULK AT MOST 1048576: true; the input reads as it did. -/
def shapedUptoRow : OpenClaim := { program := "ytakipjofboipmaagreat", sum := "b16ceb0f2b34d110c3f1198f7d67da5dac6e80af1ea2eaf85240bc154b4a713d", func := "silo/silokeep.Shaped", spec := "shaped", inPlace := ["internal/bytealg.abigen_runtime_cmpstring", "slices.overlaps[silo/table.Laid]"], unfollowed := true, recurses := true, leaving := true, apart := false, narrowed := true }
def ShapedUptoSaid : Prop := shapedUptoRow.holds Tryz.pinned (OpenSpec.upto shapedSpec)

/-- 'silokeep.Prefix', WHERE WHAT IT READS IS OF BULK AT MOST 1048576: true; the input reads as it did. -/
def prefixUptoRow : OpenClaim := { program := "ytakipjofboipmaagreat", sum := "b16ceb0f2b34d110c3f1198f7d67da5dac6e80af1ea2eaf85240bc154b4a713d", func := "silo/silokeep.Prefix", spec := "prefix", inPlace := ["internal/bytealg.abigen_runtime_cmpstring", "slices.overlaps[silo/table.Laid]"], unfollowed := true, recurses := true, leaving := true, apart := false, narrowed := true }
def PrefixUptoSaid : Prop := prefixUptoRow.holds Tryz.pinned (OpenSpec.upto prefixSpec)

/-- 'silokeep.Kept', WHERE WHAT IT READS IS OF BULK AT MOST 1048576: true; the input reads as it did. -/
def keptUptoRow : OpenClaim := { program := "ytakipjofboipmaagreat", sum := "b16ceb0f2b34d110c3f1198f7d67da5dac6e80af1ea2eaf85240bc154b4a713d", func := "silo/silokeep.Kept", spec := "kept", inPlace := ["internal/bytealg.abigen_runtime_cmpstring", "slices.overlaps[silo/table.Laid]"], unfollowed := true, recurses := true, leaving := true, apart := false, narrowed := true }
def KeptUptoSaid : Prop := keptUptoRow.holds Tryz.pinned (OpenSpec.upto keptSpec)

/-- 'silokeep.Turned', WHERE WHAT IT READS IS OF BULK AT MOST 1048576: true; the input reads as it did. -/
def turnedUptoRow : OpenClaim := { program := "ytakipjofboipmaagreat", sum := "b16ceb0f2b34d110c3f1198f7d67da5dac6e80af1ea2eaf85240bc154b4a713d", func := "silo/silokeep.Turned", spec := "turned", inPlace := ["internal/bytealg.abigen_runtime_cmpstring"], unfollowed := true, recurses := true, leaving := true, apart := false, narrowed := true }
def TurnedUptoSaid : Prop := turnedUptoRow.holds Tryz.pinned (OpenSpec.upto turnedSpec)

/-- 'silokeep.Serial', WHERE WHAT IT READS IS OF BULK AT MOST 1048576: true; the input reads as it did. -/
def serialUptoRow : OpenClaim := { program := "ytakipjofboipmaagreat", sum := "b16ceb0f2b34d110c3f1198f7d67da5dac6e80af1ea2eaf85240bc154b4a713d", func := "silo/silokeep.Serial", spec := "serial", inPlace := ["internal/bytealg.abigen_runtime_cmpstring", "slices.overlaps[silo/table.Laid]", "(*sync.WaitGroup).Add", "internal/race.ReleaseMerge", "internal/race.Disable", "internal/race.Enable", "internal/synctest.IsInBubble", "internal/synctest.Associate[sync.WaitGroup]", "sync.fatal", "sync/atomic.OrUint64", "sync/atomic.AddUint64", "internal/race.Read", "sync/atomic.LoadUint64", "sync/atomic.StoreUint64", "internal/synctest.Disassociate[sync.WaitGroup]", "sync.runtime_Semrelease", "(*sync.WaitGroup).Done", "(*internal/sync.Mutex).Lock", "sync/atomic.CompareAndSwapInt32", "internal/race.Acquire", "(*internal/sync.Mutex).lockSlow", "internal/sync.runtime_canSpin", "internal/sync.runtime_doSpin", "internal/sync.throw", "internal/sync.runtime_nanotime", "internal/sync.runtime_SemacquireMutex", "sync/atomic.AddInt32", "(*internal/sync.Mutex).Unlock", "(*internal/sync.Mutex).unlockSlow", "internal/sync.fatal", "internal/sync.runtime_Semrelease", "(*sync.WaitGroup).Wait", "internal/synctest.IsAssociated[sync.WaitGroup]", "sync/atomic.CompareAndSwapUint64", "internal/race.Write", "sync.runtime_SemacquireWaitGroup"], unfollowed := true, recurses := true, leaving := true, apart := false, calm := true, outside := [.timePasses], narrowed := true }
def SerialUptoSaid : Prop := serialUptoRow.holds Tryz.pinned (OpenSpec.upto serialSpec)

/-- 'silokeep.Group', WHERE WHAT IT READS IS OF BULK AT MOST 1048576: true; the input reads as it did. -/
def groupUptoRow : OpenClaim := { program := "ytakipjofboipmaagreat", sum := "b16ceb0f2b34d110c3f1198f7d67da5dac6e80af1ea2eaf85240bc154b4a713d", func := "silo/silokeep.Group", spec := "group", inPlace := ["(*sync.WaitGroup).Add", "internal/race.ReleaseMerge", "internal/race.Disable", "internal/race.Enable", "internal/synctest.IsInBubble", "internal/synctest.Associate[sync.WaitGroup]", "sync.fatal", "sync/atomic.OrUint64", "sync/atomic.AddUint64", "internal/race.Read", "sync/atomic.LoadUint64", "sync/atomic.StoreUint64", "internal/synctest.Disassociate[sync.WaitGroup]", "sync.runtime_Semrelease", "(*sync.WaitGroup).Done", "(*internal/sync.Mutex).Lock", "sync/atomic.CompareAndSwapInt32", "internal/race.Acquire", "(*internal/sync.Mutex).lockSlow", "internal/sync.runtime_canSpin", "internal/sync.runtime_doSpin", "internal/sync.throw", "internal/sync.runtime_nanotime", "internal/sync.runtime_SemacquireMutex", "sync/atomic.AddInt32", "(*internal/sync.Mutex).Unlock", "(*internal/sync.Mutex).unlockSlow", "internal/sync.fatal", "internal/sync.runtime_Semrelease", "internal/bytealg.abigen_runtime_cmpstring", "slices.overlaps[silo/table.Laid]", "(*sync.WaitGroup).Wait", "internal/synctest.IsAssociated[sync.WaitGroup]", "sync/atomic.CompareAndSwapUint64", "internal/race.Write", "sync.runtime_SemacquireWaitGroup"], unfollowed := true, recurses := true, leaving := true, apart := false, calm := true, outside := [.timePasses], narrowed := true }
def GroupUptoSaid : Prop := groupUptoRow.holds Tryz.pinned (OpenSpec.upto groupSpec)

end Rows
end Go.Proofs.YtakipjofboipmaaGreat
