/-
  No cell of these rows narrows 'for every input' (looked for: loops, veiled, ifaces, maps, wideKeys, modest, calm, conditions, laid).
  DERIVED. THE GIVEN ROWS OF THIS SEAT. 9 by the template 'for every input the law returns true; each argument reads behind the call as it read before'; 0 by the template 'total and deterministic' (their statements: YtkmhbbcppjckiaaTotals.lean).
  GIVEN WITH THE SEED: the statements are not yours to turn. If you find one false, say at which input.
  Laid BY PROGRAM, IN A SANDBOX (cutbox-rows.mjs): the forced cells as the released guide's own fill.sh prints them over the translation f5d2faf95755d7b3… (all of the seat's roots in one cut). By AI agents, Wed Nov 11 2026. No macro, syntax, notation, axiom, sorry.
-/
import Derived.Test.YtkmhbbcppjckiaaChecked
import GoSem.Claim
import GoSem.ClaimJoined
import GoSem.ClaimMapViews
import Derived.JoinedTies
import Derived.KernelRfl
namespace Go.Proofs.Ytkmhbbcppjckiaa
/- THE CELL 'sum', in the pinned program and in every row, IS THE sha256 OF THE DUMP (.gsa) THAT YtkmhbbcppjckiaaProg.lean LOADS. Nothing in Lean hashes anything: it is a label: what it is worth is what the hold of that sum in a sandbox is worth. -/
noncomputable def Try.pinned : Pinned := { name := "ytkmhbbcppjckiaa", sum := "f5d2faf95755d7b312eaf3a1024e282b83ecb985184412a1a8b6084e51130e68", checked := Try.checked }
namespace Rows
def none {H : Type} : Left H := { results := [], args := [] }

/-- 'foliotlaw20.QueuePlays': WHATEVER THE INPUT: true; the input reads as it did. -/
def queuePlaysSpec : ChangeSpec := { name := "queuePlays", fn := fun _ => fun
  | [d] => { results := [.lit (.bool true)], args := [d] }
  | _ => none }
def queuePlaysRow : OpenClaim := { program := "ytkmhbbcppjckiaa", sum := "f5d2faf95755d7b312eaf3a1024e282b83ecb985184412a1a8b6084e51130e68", func := "foliot/foliotlaw20.QueuePlays", spec := "queuePlays", plainKeys := false, apart := false }
def QueuePlaysSaid : Prop := queuePlaysRow.holds Try.pinned (OpenSpec.ofChange queuePlaysSpec)

/-- ITS FALSE NEIGHBOUR: 'it returns false'. Refute it at one input. -/
def queuePlaysWrong : ChangeSpec := { name := "queuePlays", fn := fun _ => fun
  | [d] => { results := [.lit (.bool false)], args := [d] }
  | _ => none }
def QueuePlaysWrongFalsely : Prop := queuePlaysRow.holds Try.pinned (OpenSpec.ofChange queuePlaysWrong)

/-- 'foliotlaw20.QueueOrder': WHATEVER THE INPUT: true; the input reads as it did. -/
def queueOrderSpec : ChangeSpec := { name := "queueOrder", fn := fun _ => fun
  | [d1, d2] => { results := [.lit (.bool true)], args := [d1, d2] }
  | _ => none }
def queueOrderRow : OpenClaim := { program := "ytkmhbbcppjckiaa", sum := "f5d2faf95755d7b312eaf3a1024e282b83ecb985184412a1a8b6084e51130e68", func := "foliot/foliotlaw20.QueueOrder", spec := "queueOrder", plainKeys := false, apart := false }
def QueueOrderSaid : Prop := queueOrderRow.holds Try.pinned (OpenSpec.ofChange queueOrderSpec)

/-- ITS FALSE NEIGHBOUR: 'it returns false'. Refute it at one input. -/
def queueOrderWrong : ChangeSpec := { name := "queueOrder", fn := fun _ => fun
  | [d1, d2] => { results := [.lit (.bool false)], args := [d1, d2] }
  | _ => none }
def QueueOrderWrongFalsely : Prop := queueOrderRow.holds Try.pinned (OpenSpec.ofChange queueOrderWrong)

/-- 'foliotlaw20.QueueFull': WHATEVER THE INPUT: true; the input reads as it did. -/
def queueFullSpec : ChangeSpec := { name := "queueFull", fn := fun _ => fun
  | [d] => { results := [.lit (.bool true)], args := [d] }
  | _ => none }
def queueFullRow : OpenClaim := { program := "ytkmhbbcppjckiaa", sum := "f5d2faf95755d7b312eaf3a1024e282b83ecb985184412a1a8b6084e51130e68", func := "foliot/foliotlaw20.QueueFull", spec := "queueFull", plainKeys := false, apart := false }
def QueueFullSaid : Prop := queueFullRow.holds Try.pinned (OpenSpec.ofChange queueFullSpec)

/-- ITS FALSE NEIGHBOUR: 'it returns false'. Refute it at one input. -/
def queueFullWrong : ChangeSpec := { name := "queueFull", fn := fun _ => fun
  | [d] => { results := [.lit (.bool false)], args := [d] }
  | _ => none }
def QueueFullWrongFalsely : Prop := queueFullRow.holds Try.pinned (OpenSpec.ofChange queueFullWrong)

/-- 'foliotlaw20.QueueApart': WHATEVER THE INPUT: true; the input reads as it did. -/
def queueApartSpec : ChangeSpec := { name := "queueApart", fn := fun _ => fun
  | [d1, d2] => { results := [.lit (.bool true)], args := [d1, d2] }
  | _ => none }
def queueApartRow : OpenClaim := { program := "ytkmhbbcppjckiaa", sum := "f5d2faf95755d7b312eaf3a1024e282b83ecb985184412a1a8b6084e51130e68", func := "foliot/foliotlaw20.QueueApart", spec := "queueApart", plainKeys := false, apart := false }
def QueueApartSaid : Prop := queueApartRow.holds Try.pinned (OpenSpec.ofChange queueApartSpec)

/-- ITS FALSE NEIGHBOUR: 'it returns false'. Refute it at one input. -/
def queueApartWrong : ChangeSpec := { name := "queueApart", fn := fun _ => fun
  | [d1, d2] => { results := [.lit (.bool false)], args := [d1, d2] }
  | _ => none }
def QueueApartWrongFalsely : Prop := queueApartRow.holds Try.pinned (OpenSpec.ofChange queueApartWrong)

/-- 'foliotlaw21.MatchingPlays': WHATEVER THE INPUT: true; the input reads as it did. -/
def matchingPlaysSpec : ChangeSpec := { name := "matchingPlays", fn := fun _ => fun
  | [d] => { results := [.lit (.bool true)], args := [d] }
  | _ => none }
def matchingPlaysRow : OpenClaim := { program := "ytkmhbbcppjckiaa", sum := "f5d2faf95755d7b312eaf3a1024e282b83ecb985184412a1a8b6084e51130e68", func := "foliot/foliotlaw21.MatchingPlays", spec := "matchingPlays", inPlace := ["sync/atomic.AddUint64", "sync/atomic.LoadUint64"], unfollowed := true, recurses := true, plainKeys := false, apart := false }
def MatchingPlaysSaid : Prop := matchingPlaysRow.holds Try.pinned (OpenSpec.ofChange matchingPlaysSpec)

/-- ITS FALSE NEIGHBOUR: 'it returns false'. Refute it at one input. -/
def matchingPlaysWrong : ChangeSpec := { name := "matchingPlays", fn := fun _ => fun
  | [d] => { results := [.lit (.bool false)], args := [d] }
  | _ => none }
def MatchingPlaysWrongFalsely : Prop := matchingPlaysRow.holds Try.pinned (OpenSpec.ofChange matchingPlaysWrong)

/-- 'foliotlaw21.MatchingOnce': WHATEVER THE INPUT: true; the input reads as it did. -/
def matchingOnceSpec : ChangeSpec := { name := "matchingOnce", fn := fun _ => fun
  | [d] => { results := [.lit (.bool true)], args := [d] }
  | _ => none }
def matchingOnceRow : OpenClaim := { program := "ytkmhbbcppjckiaa", sum := "f5d2faf95755d7b312eaf3a1024e282b83ecb985184412a1a8b6084e51130e68", func := "foliot/foliotlaw21.MatchingOnce", spec := "matchingOnce", inPlace := ["sync/atomic.AddUint64", "sync/atomic.LoadUint64"], unfollowed := true, recurses := true, plainKeys := false, apart := false }
def MatchingOnceSaid : Prop := matchingOnceRow.holds Try.pinned (OpenSpec.ofChange matchingOnceSpec)

/-- ITS FALSE NEIGHBOUR: 'it returns false'. Refute it at one input. -/
def matchingOnceWrong : ChangeSpec := { name := "matchingOnce", fn := fun _ => fun
  | [d] => { results := [.lit (.bool false)], args := [d] }
  | _ => none }
def MatchingOnceWrongFalsely : Prop := matchingOnceRow.holds Try.pinned (OpenSpec.ofChange matchingOnceWrong)

/-- 'foliotlaw21.MatchingSticky': WHATEVER THE INPUT: true; the input reads as it did. -/
def matchingStickySpec : ChangeSpec := { name := "matchingSticky", fn := fun _ => fun
  | [d1, d2, d3] => { results := [.lit (.bool true)], args := [d1, d2, d3] }
  | _ => none }
def matchingStickyRow : OpenClaim := { program := "ytkmhbbcppjckiaa", sum := "f5d2faf95755d7b312eaf3a1024e282b83ecb985184412a1a8b6084e51130e68", func := "foliot/foliotlaw21.MatchingSticky", spec := "matchingSticky", inPlace := ["sync/atomic.AddUint64", "sync/atomic.LoadUint64"], unfollowed := true, recurses := true, plainKeys := false, apart := false }
def MatchingStickySaid : Prop := matchingStickyRow.holds Try.pinned (OpenSpec.ofChange matchingStickySpec)

/-- ITS FALSE NEIGHBOUR: 'it returns false'. Refute it at one input. -/
def matchingStickyWrong : ChangeSpec := { name := "matchingSticky", fn := fun _ => fun
  | [d1, d2, d3] => { results := [.lit (.bool false)], args := [d1, d2, d3] }
  | _ => none }
def MatchingStickyWrongFalsely : Prop := matchingStickyRow.holds Try.pinned (OpenSpec.ofChange matchingStickyWrong)

/-- 'foliotlaw21.MatchingMany': WHATEVER THE INPUT: true; the input reads as it did. -/
def matchingManySpec : ChangeSpec := { name := "matchingMany", fn := fun _ => fun
  | [d1, d2] => { results := [.lit (.bool true)], args := [d1, d2] }
  | _ => none }
def matchingManyRow : OpenClaim := { program := "ytkmhbbcppjckiaa", sum := "f5d2faf95755d7b312eaf3a1024e282b83ecb985184412a1a8b6084e51130e68", func := "foliot/foliotlaw21.MatchingMany", spec := "matchingMany", inPlace := ["sync/atomic.AddUint64", "sync/atomic.LoadUint64"], unfollowed := true, recurses := true, plainKeys := false, apart := false }
def MatchingManySaid : Prop := matchingManyRow.holds Try.pinned (OpenSpec.ofChange matchingManySpec)

/-- ITS FALSE NEIGHBOUR: 'it returns false'. Refute it at one input. -/
def matchingManyWrong : ChangeSpec := { name := "matchingMany", fn := fun _ => fun
  | [d1, d2] => { results := [.lit (.bool false)], args := [d1, d2] }
  | _ => none }
def MatchingManyWrongFalsely : Prop := matchingManyRow.holds Try.pinned (OpenSpec.ofChange matchingManyWrong)

/-- 'foliottop.WholeHanded': WHATEVER THE INPUT: true; the input reads as it did. -/
def wholeHandedSpec : ChangeSpec := { name := "wholeHanded", fn := fun _ => fun
  | [d1, d2] => { results := [.lit (.bool true)], args := [d1, d2] }
  | _ => none }
def wholeHandedRow : OpenClaim := { program := "ytkmhbbcppjckiaa", sum := "f5d2faf95755d7b312eaf3a1024e282b83ecb985184412a1a8b6084e51130e68", func := "foliot/foliottop.WholeHanded", spec := "wholeHanded", inPlace := ["sync/atomic.AddUint64"], unfollowed := true, recurses := true, plainKeys := false, apart := false }
def WholeHandedSaid : Prop := wholeHandedRow.holds Try.pinned (OpenSpec.ofChange wholeHandedSpec)

/-- ITS FALSE NEIGHBOUR: 'it returns false'. Refute it at one input. -/
def wholeHandedWrong : ChangeSpec := { name := "wholeHanded", fn := fun _ => fun
  | [d1, d2] => { results := [.lit (.bool false)], args := [d1, d2] }
  | _ => none }
def WholeHandedWrongFalsely : Prop := wholeHandedRow.holds Try.pinned (OpenSpec.ofChange wholeHandedWrong)

/- THE SECOND FORM. 'bulk': how many values and letters a reading holds, each counted each time it is reached (what is shared counts as often as it is met; a slice's spare places count too). A statement '..UptoSaid' is the law's where the arguments, and the package variables that the reading takes, are together of bulk at most 1048576: NARROWER than '..Said'. Prove '..Said' where nothing that the law and all that it calls make is longer than what came in: it says more and counts as full. Else prove '..UptoSaid'. A law counts once. -/
mutual
def uptoBulk {H : Type} : DataW H → Nat
  | .lit (.string bytes) => bytes.length + 1
  | .lit _ => 1
  | .nil => 1
  | .ptr d => uptoBulk d + 1
  | .slice elems spare => uptoBulkAll elems + uptoBulkAll spare + 1
  | .agg parts => uptoBulkAll parts + 1
  | .iface _ d => uptoBulk d + 1
  | .map entries => uptoBulkEntries entries + 1
  | .held _ => 1
def uptoBulkAll {H : Type} : List (DataW H) → Nat
  | [] => 0
  | d :: r => uptoBulk d + uptoBulkAll r
def uptoBulkEntries {H : Type} : List (Lit × DataW H) → Nat
  | [] => 0
  | x :: r => uptoBulkEntry x + uptoBulkEntries r
def uptoBulkEntry {H : Type} : Lit × DataW H → Nat
  | (.string bytes, d) => bytes.length + uptoBulk d + 1
  | (_, d) => uptoBulk d + 1
 end
def uptoSmall : (H : Type) → List (DataW H) → Bool := fun _ ds => decide (uptoBulkAll ds ≤ 1048576)
def OpenSpec.upto (s : _root_.Go.ChangeSpec) : _root_.Go.OpenSpec := { _root_.Go.OpenSpec.ofChange s with cond := some uptoSmall }

/-- 'foliotlaw20.QueuePlays', WHERE WHAT IT READS IS OF BULK AT MOST 1048576: true; the input reads as it did. -/
def queuePlaysUptoRow : OpenClaim := { program := "ytkmhbbcppjckiaa", sum := "f5d2faf95755d7b312eaf3a1024e282b83ecb985184412a1a8b6084e51130e68", func := "foliot/foliotlaw20.QueuePlays", spec := "queuePlays", plainKeys := false, apart := false, narrowed := true }
def QueuePlaysUptoSaid : Prop := queuePlaysUptoRow.holds Try.pinned (OpenSpec.upto queuePlaysSpec)

/-- 'foliotlaw20.QueueOrder', WHERE WHAT IT READS IS OF BULK AT MOST 1048576: true; the input reads as it did. -/
def queueOrderUptoRow : OpenClaim := { program := "ytkmhbbcppjckiaa", sum := "f5d2faf95755d7b312eaf3a1024e282b83ecb985184412a1a8b6084e51130e68", func := "foliot/foliotlaw20.QueueOrder", spec := "queueOrder", plainKeys := false, apart := false, narrowed := true }
def QueueOrderUptoSaid : Prop := queueOrderUptoRow.holds Try.pinned (OpenSpec.upto queueOrderSpec)

/-- 'foliotlaw20.QueueFull', WHERE WHAT IT READS IS OF BULK AT MOST 1048576: true; the input reads as it did. -/
def queueFullUptoRow : OpenClaim := { program := "ytkmhbbcppjckiaa", sum := "f5d2faf95755d7b312eaf3a1024e282b83ecb985184412a1a8b6084e51130e68", func := "foliot/foliotlaw20.QueueFull", spec := "queueFull", plainKeys := false, apart := false, narrowed := true }
def QueueFullUptoSaid : Prop := queueFullUptoRow.holds Try.pinned (OpenSpec.upto queueFullSpec)

/-- 'foliotlaw20.QueueApart', WHERE WHAT IT READS IS OF BULK AT MOST 1048576: true; the input reads as it did. -/
def queueApartUptoRow : OpenClaim := { program := "ytkmhbbcppjckiaa", sum := "f5d2faf95755d7b312eaf3a1024e282b83ecb985184412a1a8b6084e51130e68", func := "foliot/foliotlaw20.QueueApart", spec := "queueApart", plainKeys := false, apart := false, narrowed := true }
def QueueApartUptoSaid : Prop := queueApartUptoRow.holds Try.pinned (OpenSpec.upto queueApartSpec)

/-- 'foliotlaw21.MatchingPlays', WHERE WHAT IT READS IS OF BULK AT MOST 1048576: true; the input reads as it did. -/
def matchingPlaysUptoRow : OpenClaim := { program := "ytkmhbbcppjckiaa", sum := "f5d2faf95755d7b312eaf3a1024e282b83ecb985184412a1a8b6084e51130e68", func := "foliot/foliotlaw21.MatchingPlays", spec := "matchingPlays", inPlace := ["sync/atomic.AddUint64", "sync/atomic.LoadUint64"], unfollowed := true, recurses := true, plainKeys := false, apart := false, narrowed := true }
def MatchingPlaysUptoSaid : Prop := matchingPlaysUptoRow.holds Try.pinned (OpenSpec.upto matchingPlaysSpec)

/-- 'foliotlaw21.MatchingOnce', WHERE WHAT IT READS IS OF BULK AT MOST 1048576: true; the input reads as it did. -/
def matchingOnceUptoRow : OpenClaim := { program := "ytkmhbbcppjckiaa", sum := "f5d2faf95755d7b312eaf3a1024e282b83ecb985184412a1a8b6084e51130e68", func := "foliot/foliotlaw21.MatchingOnce", spec := "matchingOnce", inPlace := ["sync/atomic.AddUint64", "sync/atomic.LoadUint64"], unfollowed := true, recurses := true, plainKeys := false, apart := false, narrowed := true }
def MatchingOnceUptoSaid : Prop := matchingOnceUptoRow.holds Try.pinned (OpenSpec.upto matchingOnceSpec)

/-- 'foliotlaw21.MatchingSticky', WHERE WHAT IT READS IS OF BULK AT MOST 1048576: true; the input reads as it did. -/
def matchingStickyUptoRow : OpenClaim := { program := "ytkmhbbcppjckiaa", sum := "f5d2faf95755d7b312eaf3a1024e282b83ecb985184412a1a8b6084e51130e68", func := "foliot/foliotlaw21.MatchingSticky", spec := "matchingSticky", inPlace := ["sync/atomic.AddUint64", "sync/atomic.LoadUint64"], unfollowed := true, recurses := true, plainKeys := false, apart := false, narrowed := true }
def MatchingStickyUptoSaid : Prop := matchingStickyUptoRow.holds Try.pinned (OpenSpec.upto matchingStickySpec)

/-- 'foliotlaw21.MatchingMany', WHERE WHAT IT READS IS OF BULK AT MOST 1048576: true; the input reads as it did. -/
def matchingManyUptoRow : OpenClaim := { program := "ytkmhbbcppjckiaa", sum := "f5d2faf95755d7b312eaf3a1024e282b83ecb985184412a1a8b6084e51130e68", func := "foliot/foliotlaw21.MatchingMany", spec := "matchingMany", inPlace := ["sync/atomic.AddUint64", "sync/atomic.LoadUint64"], unfollowed := true, recurses := true, plainKeys := false, apart := false, narrowed := true }
def MatchingManyUptoSaid : Prop := matchingManyUptoRow.holds Try.pinned (OpenSpec.upto matchingManySpec)

/-- 'foliottop.WholeHanded', WHERE WHAT IT READS IS OF BULK AT MOST 1048576: true; the input reads as it did. -/
def wholeHandedUptoRow : OpenClaim := { program := "ytkmhbbcppjckiaa", sum := "f5d2faf95755d7b312eaf3a1024e282b83ecb985184412a1a8b6084e51130e68", func := "foliot/foliottop.WholeHanded", spec := "wholeHanded", inPlace := ["sync/atomic.AddUint64"], unfollowed := true, recurses := true, plainKeys := false, apart := false, narrowed := true }
def WholeHandedUptoSaid : Prop := wholeHandedUptoRow.holds Try.pinned (OpenSpec.upto wholeHandedSpec)

end Rows
end Go.Proofs.Ytkmhbbcppjckiaa
