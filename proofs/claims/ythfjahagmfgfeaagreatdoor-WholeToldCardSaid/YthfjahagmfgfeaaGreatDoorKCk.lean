/- Fits, Text. -/
import Derived.Test.YthfjahagmfgfeaaGreatDoorKCj
import Derived.Test.YthfjahagmfgfeaaGreatDoorKCq
namespace Go.Proofs.YthfjahagmfgfeaaGreatDoor.Cr
open Go Go.RowKit
set_option linter.unusedVariables false
set_option linter.unusedSimpArgs false
theorem text_any (g : Nat) (l : List UInt8) (D : List (List Nat × Bool)) (w : World) (hS : SpecAt w g l D) :
    Calls Tryz.prog 44 #[.pointer (some ⟨g, 0, none⟩)] w fun e w' => e = .returned (.string (str l)) ∧ w' = w := by
  have c0 : w.cell? ⟨g, 0, none⟩ = some (.string (str l)) := by rw [cell_of_rowW w g 0 _ _ _ hS.row]; rfl
  clear hS
  go_enter Tryz.func44, Tryz.ntmps44
  go_wp2
  go_ret
  exact ⟨rfl, rfl⟩
end Go.Proofs.YthfjahagmfgfeaaGreatDoor.Cr
