/- MarkDown's other answers. -/
import Derived.Test.YtllnaocnojhlkaaMr
namespace Go.Proofs.Ytllnaocnojhlkaa.Dk
open Go Go.RowKit
set_option linter.unusedVariables false
set_option linter.unusedSimpArgs false
set_option maxRecDepth 100000 in
theorem markDown_none {w : World} (ao : Option Addr) (N c : Nat) (fz : Int) (h : 6 < N ∨ fz < 0 ∨ 3 < fz) :
    Calls Try.prog 13 #[.slice ao N c, .int .i64 fz] w fun e w' => e = .returned (.bool true) ∧ Below w.heap.size w w' := by
  have MK := Lib.hid (marks_any w)
  by_cases c1 : (6 : Int) < (N : Int)
  · clear h
    go_enter Try.func13, Try.ntmps13
    go_wp2_with fail
    refine MK.out.mono ?_
    rintro e w1 ⟨rfl, hb1⟩
    have HB1 := Lib.hid hb1
    clear hb1 MK
    go_wp2_with fail
    go_ret
    exact ⟨rfl, HB1.out⟩
  · by_cases c2 : fz < 0
    · clear h
      go_enter Try.func13, Try.ntmps13
      go_wp2_with fail
      refine MK.out.mono ?_
      rintro e w1 ⟨rfl, hb1⟩
      have HB1 := Lib.hid hb1
      clear hb1 MK
      go_wp2_with fail
      go_ret
      exact ⟨rfl, HB1.out⟩
    · have c3 : (3 : Int) < fz := by omega
      clear h
      go_enter Try.func13, Try.ntmps13
      go_wp2_with fail
      refine MK.out.mono ?_
      rintro e w1 ⟨rfl, hb1⟩
      have HB1 := Lib.hid hb1
      clear hb1 MK
      go_wp2_with fail
      go_ret
      exact ⟨rfl, HB1.out⟩
end Go.Proofs.Ytllnaocnojhlkaa.Dk
