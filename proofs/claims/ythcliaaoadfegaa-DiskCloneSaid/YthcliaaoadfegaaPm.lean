/- Contracts of the library's shelf, laid at this program's numbers. -/
import Derived.Shelf.SlMaps.Clone
import Derived.Ground.SlmcProg
import Derived.Test.YthcliaaoadfegaaProg
namespace Go.Proofs.Ythcliaaoadfegaa
open Go.Shelf
def Try.mapsCloneA_ren : Go.Shelf.Ren := ⟨fun | 5 => 31 | 7 => 44 | n => n, fun | 23 => 51 | 25 => 3 | 3 => 75 | 4 => 4 | 20 => 20 | n => n, fun | n => n⟩
theorem Try.mapsCloneA : Go.Proofs.SlLaysW.n5 Try.prog Try.mapsCloneA_ren := {
  mixed := by kernel_rfl
  f5 := ⟨Try.f31.name, by decide, Try.func31.trans (congrArg some (by kernel_rfl))⟩
  f7 := Try.func44.trans (congrArg some (by kernel_rfl))
  t4 := Try.underlying4
  a4 := Try.isAgg4
  z4 := Try.sizeOf4
  v4 := Try.zeroValue4
  t20 := Try.underlying20
  a20 := Try.isAgg20
  z20 := Try.sizeOf20
  v20 := Try.zeroValue20
  t23 := Try.underlying51
  a23 := Try.isAgg51
  z23 := Try.sizeOf51
  v23 := Try.zeroValue51 }
end Go.Proofs.Ythcliaaoadfegaa
