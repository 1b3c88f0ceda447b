/-
  No cell of these rows narrows 'for every input' (looked for: loops, veiled, ifaces, maps, wideKeys, modest, calm, conditions, laid).
  DERIVED. THE GIVEN ROWS OF THIS SEAT. 7 by the template 'for every input the law returns true; each argument reads behind the call as it read before'; 0 by the template 'total and deterministic' (their statements: YtgbmkolpdnenlaaTotals.lean).
  GIVEN WITH THE SEED: the statements are not yours to turn. If you find one false, say at which input.
  Laid BY PROGRAM, IN A SANDBOX (cutbox-rows.mjs): the forced cells as the released guide's own fill.sh prints them over the translation db88c3d0b6c4a44b… (all of the seat's roots in one cut). By AI agents, Wed Nov 11 2026. No macro, syntax, notation, axiom, sorry.
-/
import Derived.Test.YtgbmkolpdnenlaaChecked
import GoSem.Claim
import GoSem.ClaimJoined
import GoSem.ClaimMapViews
import Derived.JoinedTies
import Derived.KernelRfl
namespace Go.Proofs.Ytgbmkolpdnenlaa
/- THE CELL 'sum', in the pinned program and in every row, IS THE sha256 OF THE DUMP (.gsa) THAT YtgbmkolpdnenlaaProg.lean LOADS. Nothing in Lean hashes anything: it is a label: what it is worth is what the hold of that sum in a sandbox is worth. -/
noncomputable def Try.pinned : Pinned := { name := "ytgbmkolpdnenlaa", sum := "db88c3d0b6c4a44b2b645fda7a662885072b810061efc208ead7c33aa2ec8fe4", checked := Try.checked }
namespace Rows
def none {H : Type} : Left H := { results := [], args := [] }

/-- 'foliotlaw06.MarkPuts': WHATEVER THE INPUT: true; the input reads as it did. -/
def markPutsSpec : ChangeSpec := { name := "markPuts", fn := fun _ => fun
  | [d1, d2] => { results := [.lit (.bool true)], args := [d1, d2] }
  | _ => none }
def markPutsRow : OpenClaim := { program := "ytgbmkolpdnenlaa", sum := "db88c3d0b6c4a44b2b645fda7a662885072b810061efc208ead7c33aa2ec8fe4", func := "foliot/foliotlaw06.MarkPuts", spec := "markPuts", inPlace := ["sync/atomic.AddInt64"], unfollowed := true, recurses := true, apart := false }
def MarkPutsSaid : Prop := markPutsRow.holds Try.pinned (OpenSpec.ofChange markPutsSpec)

/-- ITS FALSE NEIGHBOUR: 'it returns false'. Refute it at one input. -/
def markPutsWrong : ChangeSpec := { name := "markPuts", fn := fun _ => fun
  | [d1, d2] => { results := [.lit (.bool false)], args := [d1, d2] }
  | _ => none }
def MarkPutsWrongFalsely : Prop := markPutsRow.holds Try.pinned (OpenSpec.ofChange markPutsWrong)

/-- 'foliotlaw06.MarkReads': WHATEVER THE INPUT: true; the input reads as it did. -/
def markReadsSpec : ChangeSpec := { name := "markReads", fn := fun _ => fun
  | [d1, d2, d3] => { results := [.lit (.bool true)], args := [d1, d2, d3] }
  | _ => none }
def markReadsRow : OpenClaim := { program := "ytgbmkolpdnenlaa", sum := "db88c3d0b6c4a44b2b645fda7a662885072b810061efc208ead7c33aa2ec8fe4", func := "foliot/foliotlaw06.MarkReads", spec := "markReads", inPlace := ["sync/atomic.AddInt64"], apart := false }
def MarkReadsSaid : Prop := markReadsRow.holds Try.pinned (OpenSpec.ofChange markReadsSpec)

/-- ITS FALSE NEIGHBOUR: 'it returns false'. Refute it at one input. -/
def markReadsWrong : ChangeSpec := { name := "markReads", fn := fun _ => fun
  | [d1, d2, d3] => { results := [.lit (.bool false)], args := [d1, d2, d3] }
  | _ => none }
def MarkReadsWrongFalsely : Prop := markReadsRow.holds Try.pinned (OpenSpec.ofChange markReadsWrong)

/-- 'foliotlaw06.MarkTorn': WHATEVER THE INPUT: true; the input reads as it did. -/
def markTornSpec : ChangeSpec := { name := "markTorn", fn := fun _ => fun
  | [d] => { results := [.lit (.bool true)], args := [d] }
  | _ => none }
def markTornRow : OpenClaim := { program := "ytgbmkolpdnenlaa", sum := "db88c3d0b6c4a44b2b645fda7a662885072b810061efc208ead7c33aa2ec8fe4", func := "foliot/foliotlaw06.MarkTorn", spec := "markTorn", inPlace := ["sync/atomic.AddInt64"], unfollowed := true, recurses := true, apart := false }
def MarkTornSaid : Prop := markTornRow.holds Try.pinned (OpenSpec.ofChange markTornSpec)

/-- ITS FALSE NEIGHBOUR: 'it returns false'. Refute it at one input. -/
def markTornWrong : ChangeSpec := { name := "markTorn", fn := fun _ => fun
  | [d] => { results := [.lit (.bool false)], args := [d] }
  | _ => none }
def MarkTornWrongFalsely : Prop := markTornRow.holds Try.pinned (OpenSpec.ofChange markTornWrong)

/-- 'foliotlaw06.MarkSpoilt': WHATEVER THE INPUT: true; the input reads as it did. -/
def markSpoiltSpec : ChangeSpec := { name := "markSpoilt", fn := fun _ => fun
  | [d1, d2, d3] => { results := [.lit (.bool true)], args := [d1, d2, d3] }
  | _ => none }
def markSpoiltRow : OpenClaim := { program := "ytgbmkolpdnenlaa", sum := "db88c3d0b6c4a44b2b645fda7a662885072b810061efc208ead7c33aa2ec8fe4", func := "foliot/foliotlaw06.MarkSpoilt", spec := "markSpoilt", inPlace := ["sync/atomic.AddInt64", "maps.clone"], apart := false }
def MarkSpoiltSaid : Prop := markSpoiltRow.holds Try.pinned (OpenSpec.ofChange markSpoiltSpec)

/-- ITS FALSE NEIGHBOUR: 'it returns false'. Refute it at one input. -/
def markSpoiltWrong : ChangeSpec := { name := "markSpoilt", fn := fun _ => fun
  | [d1, d2, d3] => { results := [.lit (.bool false)], args := [d1, d2, d3] }
  | _ => none }
def MarkSpoiltWrongFalsely : Prop := markSpoiltRow.holds Try.pinned (OpenSpec.ofChange markSpoiltWrong)

/-- 'foliottop.WholeNoted': WHATEVER THE INPUT: true; the input reads as it did. -/
def wholeNotedSpec : ChangeSpec := { name := "wholeNoted", fn := fun _ => fun
  | [d] => { results := [.lit (.bool true)], args := [d] }
  | _ => none }
def wholeNotedRow : OpenClaim := { program := "ytgbmkolpdnenlaa", sum := "db88c3d0b6c4a44b2b645fda7a662885072b810061efc208ead7c33aa2ec8fe4", func := "foliot/foliottop.WholeNoted", spec := "wholeNoted", inPlace := ["sync/atomic.AddInt64"], unfollowed := true, recurses := true, apart := false }
def WholeNotedSaid : Prop := wholeNotedRow.holds Try.pinned (OpenSpec.ofChange wholeNotedSpec)

/-- ITS FALSE NEIGHBOUR: 'it returns false'. Refute it at one input. -/
def wholeNotedWrong : ChangeSpec := { name := "wholeNoted", fn := fun _ => fun
  | [d] => { results := [.lit (.bool false)], args := [d] }
  | _ => none }
def WholeNotedWrongFalsely : Prop := wholeNotedRow.holds Try.pinned (OpenSpec.ofChange wholeNotedWrong)

/-- 'foliotlaw05.DiskPlays': WHATEVER THE INPUT: true; the input reads as it did. -/
def diskPlaysSpec : ChangeSpec := { name := "diskPlays", fn := fun _ => fun
  | [d1, d2] => { results := [.lit (.bool true)], args := [d1, d2] }
  | _ => none }
def diskPlaysRow : OpenClaim := { program := "ytgbmkolpdnenlaa", sum := "db88c3d0b6c4a44b2b645fda7a662885072b810061efc208ead7c33aa2ec8fe4", func := "foliot/foliotlaw05.DiskPlays", spec := "diskPlays", inPlace := ["sync/atomic.AddInt64", "sync/atomic.LoadInt64"], unfollowed := true, recurses := true, apart := false }
def DiskPlaysSaid : Prop := diskPlaysRow.holds Try.pinned (OpenSpec.ofChange diskPlaysSpec)

/-- ITS FALSE NEIGHBOUR: 'it returns false'. Refute it at one input. -/
def diskPlaysWrong : ChangeSpec := { name := "diskPlays", fn := fun _ => fun
  | [d1, d2] => { results := [.lit (.bool false)], args := [d1, d2] }
  | _ => none }
def DiskPlaysWrongFalsely : Prop := diskPlaysRow.holds Try.pinned (OpenSpec.ofChange diskPlaysWrong)

/-- 'foliotlaw05.DiskClone': WHATEVER THE INPUT: true; the input reads as it did. -/
def diskCloneSpec : ChangeSpec := { name := "diskClone", fn := fun _ => fun
  | [d1, d2] => { results := [.lit (.bool true)], args := [d1, d2] }
  | _ => none }
def diskCloneRow : OpenClaim := { program := "ytgbmkolpdnenlaa", sum := "db88c3d0b6c4a44b2b645fda7a662885072b810061efc208ead7c33aa2ec8fe4", func := "foliot/foliotlaw05.DiskClone", spec := "diskClone", inPlace := ["sync/atomic.AddInt64", "sync/atomic.LoadInt64", "maps.clone"], unfollowed := true, recurses := true, apart := false }
def DiskCloneSaid : Prop := diskCloneRow.holds Try.pinned (OpenSpec.ofChange diskCloneSpec)

/-- ITS FALSE NEIGHBOUR: 'it returns false'. Refute it at one input. -/
def diskCloneWrong : ChangeSpec := { name := "diskClone", fn := fun _ => fun
  | [d1, d2] => { results := [.lit (.bool false)], args := [d1, d2] }
  | _ => none }
def DiskCloneWrongFalsely : Prop := diskCloneRow.holds Try.pinned (OpenSpec.ofChange diskCloneWrong)

/- THE SECOND FORM. 'bulk': how many values and letters a reading holds, each counted each time it is reached (what is shared counts as often as it is met; a slice's spare places count too). A statement '..UptoSaid' is the law's where the arguments, and the package variables that the reading takes, are together of bulk at most 1048576: NARROWER than '..Said'. Prove '..Said' where nothing that the law and all that it calls make is longer than what came in: it says more and counts as full. Else prove '..UptoSaid'. A law counts once. -/
mutual
def uptoBulk {H : Type} : DataW H → Nat
  | .lit (.string bytes) => bytes.length + 1
  | .lit _ => 1
  | .nil => 1
  | .ptr d => uptoBulk d + 1
  | .slice elems spare => uptoBulkAll elems + uptoBulkAll spare + 1
  | .agg parts => uptoBulkAll parts + 1
  | .iface _ d => uptoBulk d + 1
  | .map entries => uptoBulkEntries entries + 1
  | .held _ => 1
def uptoBulkAll {H : Type} : List (DataW H) → Nat
  | [] => 0
  | d :: r => uptoBulk d + uptoBulkAll r
def uptoBulkEntries {H : Type} : List (Lit × DataW H) → Nat
  | [] => 0
  | x :: r => uptoBulkEntry x + uptoBulkEntries r
def uptoBulkEntry {H : Type} : Lit × DataW H → Nat
  | (.string bytes, d) => bytes.length + uptoBulk d + 1
  | (_, d) => uptoBulk d + 1
 end
def uptoSmall : (H : Type) → List (DataW H) → Bool := fun _ ds => decide (uptoBulkAll ds ≤ 1048576)
def OpenSpec.upto (s : _root_.Go.ChangeSpec) : _root_.Go.OpenSpec := { _root_.Go.OpenSpec.ofChange s with cond := some uptoSmall }

/-- 'foliotlaw06.MarkPuts', WHERE WHAT IT READS IS OF BULK AT MOST 1048576: true; the input reads as it did. -/
def markPutsUptoRow : OpenClaim := { program := "ytgbmkolpdnenlaa", sum := "db88c3d0b6c4a44b2b645fda7a662885072b810061efc208ead7c33aa2ec8fe4", func := "foliot/foliotlaw06.MarkPuts", spec := "markPuts", inPlace := ["sync/atomic.AddInt64"], unfollowed := true, recurses := true, apart := false, narrowed := true }
def MarkPutsUptoSaid : Prop := markPutsUptoRow.holds Try.pinned (OpenSpec.upto markPutsSpec)

/-- 'foliotlaw06.MarkReads', WHERE WHAT IT READS IS OF BULK AT MOST 1048576: true; the input reads as it did. -/
def markReadsUptoRow : OpenClaim := { program := "ytgbmkolpdnenlaa", sum := "db88c3d0b6c4a44b2b645fda7a662885072b810061efc208ead7c33aa2ec8fe4", func := "foliot/foliotlaw06.MarkReads", spec := "markReads", inPlace := ["sync/atomic.AddInt64"], apart := false, narrowed := true }
def MarkReadsUptoSaid : Prop := markReadsUptoRow.holds Try.pinned (OpenSpec.upto markReadsSpec)

/-- 'foliotlaw06.MarkTorn', WHERE WHAT IT READS IS OF BULK AT MOST 1048576: true; the input reads as it did. -/
def markTornUptoRow : OpenClaim := { program := "ytgbmkolpdnenlaa", sum := "db88c3d0b6c4a44b2b645fda7a662885072b810061efc208ead7c33aa2ec8fe4", func := "foliot/foliotlaw06.MarkTorn", spec := "markTorn", inPlace := ["sync/atomic.AddInt64"], unfollowed := true, recurses := true, apart := false, narrowed := true }
def MarkTornUptoSaid : Prop := markTornUptoRow.holds Try.pinned (OpenSpec.upto markTornSpec)

/-- 'foliotlaw06.MarkSpoilt', WHERE WHAT IT READS IS OF BULK AT MOST 1048576: true; the input reads as it did. -/
def markSpoiltUptoRow : OpenClaim := { program := "ytgbmkolpdnenlaa", sum := "db88c3d0b6c4a44b2b645fda7a662885072b810061efc208ead7c33aa2ec8fe4", func := "foliot/foliotlaw06.MarkSpoilt", spec := "markSpoilt", inPlace := ["sync/atomic.AddInt64", "maps.clone"], apart := false, narrowed := true }
def MarkSpoiltUptoSaid : Prop := markSpoiltUptoRow.holds Try.pinned (OpenSpec.upto markSpoiltSpec)

/-- 'foliottop.WholeNoted', WHERE WHAT IT READS IS OF BULK AT MOST 1048576: true; the input reads as it did. -/
def wholeNotedUptoRow : OpenClaim := { program := "ytgbmkolpdnenlaa", sum := "db88c3d0b6c4a44b2b645fda7a662885072b810061efc208ead7c33aa2ec8fe4", func := "foliot/foliottop.WholeNoted", spec := "wholeNoted", inPlace := ["sync/atomic.AddInt64"], unfollowed := true, recurses := true, apart := false, narrowed := true }
def WholeNotedUptoSaid : Prop := wholeNotedUptoRow.holds Try.pinned (OpenSpec.upto wholeNotedSpec)

/-- 'foliotlaw05.DiskPlays', WHERE WHAT IT READS IS OF BULK AT MOST 1048576: true; the input reads as it did. -/
def diskPlaysUptoRow : OpenClaim := { program := "ytgbmkolpdnenlaa", sum := "db88c3d0b6c4a44b2b645fda7a662885072b810061efc208ead7c33aa2ec8fe4", func := "foliot/foliotlaw05.DiskPlays", spec := "diskPlays", inPlace := ["sync/atomic.AddInt64", "sync/atomic.LoadInt64"], unfollowed := true, recurses := true, apart := false, narrowed := true }
def DiskPlaysUptoSaid : Prop := diskPlaysUptoRow.holds Try.pinned (OpenSpec.upto diskPlaysSpec)

/-- 'foliotlaw05.DiskClone', WHERE WHAT IT READS IS OF BULK AT MOST 1048576: true; the input reads as it did. -/
def diskCloneUptoRow : OpenClaim := { program := "ytgbmkolpdnenlaa", sum := "db88c3d0b6c4a44b2b645fda7a662885072b810061efc208ead7c33aa2ec8fe4", func := "foliot/foliotlaw05.DiskClone", spec := "diskClone", inPlace := ["sync/atomic.AddInt64", "sync/atomic.LoadInt64", "maps.clone"], unfollowed := true, recurses := true, apart := false, narrowed := true }
def DiskCloneUptoSaid : Prop := diskCloneUptoRow.holds Try.pinned (OpenSpec.upto diskCloneSpec)

end Rows
end Go.Proofs.Ytgbmkolpdnenlaa
