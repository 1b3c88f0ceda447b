/- The sum of all bytes so far: Hash.Sum. -/
import Derived.Test.YtejbookaflnpeabDoorFl
namespace Go.Proofs.YtejbookaflnpeabDoor
open Go Go.RowKit
set_option linter.unusedVariables false

theorem HashAt.all {w : World} {b : Nat} {G : List Nat} {B : List UInt8} {n : Nat} (h : HashAt w b G B n) : (hcells G B n).length = 73 := by simp [hcells, u32s_length, bvs_length, h.1, h.2.1]
theorem hcells_one (G : List Nat) (B : List UInt8) (n : Nat) : ∀ v ∈ hcells G B n, v.oneCell' = true := by
  intro v hv
  simp only [hcells, List.mem_append, List.mem_singleton, u32s, bvs, List.mem_map] at hv
  rcases hv with (⟨_, _, rfl⟩ | ⟨_, _, rfl⟩) | rfl <;> rfl
/-- Filling's row is a source for a hash apart from it. -/
theorem Src.ofRow {w : World} {b g : Nat} {l : List UInt8} {k : Nat} (hk : l.length = k) (hg : w.heap[g]? = some (.cells (bvs l).toArray 5 (0, 0))) (hne : g ≠ b) : Src w b (.slice (some ⟨g, 0, none⟩) k k) l := by
  subst hk
  refine ⟨some ⟨g, 0, none⟩, l.length, rfl, Nat.le_refl _, (by intro e; cases e), fun a ha _ => ?_⟩
  cases ha
  refine ⟨hne, (Array.getElem?_eq_some_iff.1 hg).1, fun j u hu => ?_⟩
  rw [Addr.add_mid, Nat.zero_add, cell_of_row w g j _ _ _ hg]
  simpa using hu
/-- The zero Hash. -/
def Z73 : Array Value := (hcells (List.replicate 8 0) (List.replicate 64 0) 0).toArray
theorem info_hash : (Tryd.prog.info? 54).bind (·.zero) = some (.agg Z73) := by kernel_rfl
theorem zero_hash (w : World) : (zeroValue 54).run Tryd.prog w = .ok (.agg Z73) w := by
  obtain ⟨i, hi, hz⟩ := Option.bind_eq_some_iff.1 info_hash
  simp [zeroValue, typeInfo, hi, hz]
end Go.Proofs.YtejbookaflnpeabDoor
