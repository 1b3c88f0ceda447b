/- DateOf, and the reference's. -/
import Derived.Test.YthfjahagmfgfeaaGreatDoorKCb
import Derived.Lib.SmallJoins
namespace Go.Proofs.YthfjahagmfgfeaaGreatDoor.Cr
open Go Go.RowKit
set_option linter.unusedVariables false
set_option linter.unusedSimpArgs false
def zDate : List Value := [.int .i64 0, .int .i64 0, .int .i64 0, .int .i64 0, .int .i64 0, .int .i64 0]
def DateD.list (D : DateD) : List Value := [.int .i64 (D.y : Int), .int .i64 (D.m : Int), .int .i64 (D.d : Int), .int .i64 (D.h : Int), .int .i64 (D.mi : Int), .int .i64 (D.w : Int)]
theorem DateD.one (D : DateD) : D.list.toArray.all (·.oneCell') = true := all_oneCell_toArray (by
  intro u hu
  simp only [DateD.list, List.mem_cons, List.not_mem_nil, or_false] at hu
  rcases hu with rfl | rfl | rfl | rfl | rfl | rfl <;> rfl)
theorem DateD.cells_eq (D : DateD) : D.cells = D.list.toArray := rfl
/-- What DateOf answers. -/
def dateL (t : Int) : List Value := if t < 0 ∨ 4294967296 < t then zDate else (dateN t.toNat).list
def dateE (t : Int) : Int := if t < 0 ∨ 4294967296 < t then 1 else 0
end Go.Proofs.YthfjahagmfgfeaaGreatDoor.Cr
