/- Contracts of the library's shelf, laid at this program's numbers. -/
import Derived.Shelf.SlMaps.Clone
import Derived.Ground.SlmcProg
import Derived.Test.YtgbmkolpdnenlaaProg
namespace Go.Proofs.Ytgbmkolpdnenlaa
open Go.Shelf
def Try.mapsCloneA_ren : Go.Shelf.Ren := ⟨fun | 5 => 50 | 7 => 70 | n => n, fun | 23 => 87 | 25 => 3 | 3 => 110 | 4 => 4 | 20 => 20 | n => n, fun | n => n⟩
theorem Try.mapsCloneA : Go.Proofs.SlLaysW.n5 Try.prog Try.mapsCloneA_ren := {
  mixed := by kernel_rfl
  f5 := ⟨Try.f50.name, by decide, Try.func50.trans (congrArg some (by kernel_rfl))⟩
  f7 := Try.func70.trans (congrArg some (by kernel_rfl))
  t4 := Try.underlying4
  a4 := Try.isAgg4
  z4 := Try.sizeOf4
  v4 := Try.zeroValue4
  t20 := Try.underlying20
  a20 := Try.isAgg20
  z20 := Try.sizeOf20
  v20 := Try.zeroValue20
  t23 := Try.underlying87
  a23 := Try.isAgg87
  z23 := Try.sizeOf87
  v23 := Try.zeroValue87 }
end Go.Proofs.Ytgbmkolpdnenlaa
