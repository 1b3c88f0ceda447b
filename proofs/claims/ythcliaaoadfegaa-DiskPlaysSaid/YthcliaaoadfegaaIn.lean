/- A slice of numbers in a row of its own, as Pending answers it. -/
import Derived.Test.YthcliaaoadfegaaPn
namespace Go.Proofs.Ythcliaaoadfegaa.Dk
open Go Go.RowKit
set_option linter.unusedVariables false
set_option linter.unusedSimpArgs false
def IntsA (w : World) (B : Nat) (ao : Option Addr) (L : List Int) : Prop :=
  ∀ j, j < L.length → ∃ gp, ao = some ⟨gp, 0, none⟩ ∧ B ≤ gp ∧ gp < w.heap.size ∧ w.cell? ⟨gp, j, none⟩ = some (.int .i64 (L.getD j 0))
theorem intsA_of {w : World} {B : Nat} {v : Value} {L : List Int} (h : w.ownsRow B 3 1 v L.length (L.map (Value.int .i64))) : ∃ ao c, v = .slice ao L.length c ∧ L.length ≤ c ∧ IntsA w B ao L := by
  rcases h.2 with ⟨rfl, h0⟩ | ⟨g, cap, cur, rfl, hb, hh, h1, h2, h3, h4⟩
  · exact ⟨none, 0, by rw [h0], by omega, fun j hj => by omega⟩
  · refine ⟨_, cap, rfl, h1, fun j hj => ⟨g, rfl, hb, lt_of_row hh, ?_⟩⟩
    rw [cell_of_row w g j _ _ _ hh, ← Array.getElem?_toList]
    have h5 : (cur.toList.take (L.length * 1))[j]? = (L.map (Value.int .i64))[j]? := by rw [h4]
    rw [List.getElem?_take, if_pos (by omega)] at h5
    rw [h5]
    simp [List.getD, hj]
theorem IntsA.below {w w' : World} {B C : Nat} {ao : Option Addr} {L : List Int} (h : IntsA w B ao L) (hb : Below C w w') (hC : w.heap.size ≤ C) : IntsA w' B ao L := fun j hj => by
  obtain ⟨gp, h1, h2, h3, h4⟩ := h j hj
  exact ⟨gp, h1, h2, Nat.lt_of_lt_of_le h3 hb.size, by rw [hb.cell (p := ⟨gp, j, none⟩) (by simp; omega)]; exact h4⟩
theorem zaddA (k j : Nat) : (⟨k, 0, none⟩ : Addr).add j = ⟨k, j, none⟩ := by rw [Addr.add_mid, Nat.zero_add]
end Go.Proofs.Ythcliaaoadfegaa.Dk
