/- A slice of slices of bytes that came in. -/
import Derived.Test.YtllnaocnojhlkaaUc
import Derived.Deep.Matrix
namespace Go.Proofs.Ytllnaocnojhlkaa.Dk
open Go Go.RowKit Go.ChangeShapes Go.WideShapes Go.ChangeAt
set_option linter.unusedVariables false
set_option linter.unusedSimpArgs false

theorem sl_of_cells {W : World} {ao : Option Addr} {l c : Nat} {zs : List Int} (hl : l ≤ c) (hz : zs.length = c) (hno : ao = Option.none → c = 0) (hb : ∀ z ∈ zs, 0 ≤ z ∧ z ≤ 255) (hc : ∀ a, ao = some a → ∀ j, j < c → W.cell? (a.add j) = some (.int .u8 (zs.getD j 0))) :
    (ofInts (zs.take l)).length = l ∧ Sl W (.slice ao l c) (ofInts (zs.take l)) := by
  have hlen : (ofInts (zs.take l)).length = l := by simp [ofInts]; omega
  refine ⟨hlen, ao, c, by rw [hlen], fun h => ?_, fun a ha j u hu => ?_⟩
  · have := hno h
    exact List.length_eq_zero_iff.1 (by omega)
  · obtain ⟨hj, rfl⟩ := ofInts_get _ (fun z hz' => hb z (List.mem_of_mem_take hz')) j u hu
    have hj' : j < l := by have : (zs.take l).length ≤ l := List.length_take_le _ _; omega
    rw [hc a ha j (by omega)]
    simp [List.getD, hj']
set_option maxRecDepth 100000 in
theorem cBytes : Try.prog.cellsOf 32 = 1 := by kernel_rfl
set_option maxRecDepth 100000 in
theorem cU8 : Try.prog.cellsOf 5 = 1 := by kernel_rfl
set_option maxRecDepth 100000 in
theorem open_bytess {H : Type} {enc : TypeId × Value → H} {W : World} {base : Nat} {v : Value} {d : DataW H} {p : List MemPlace} (hv : Value.okWide Try.prog W .any base 43 v) (h : DataW.Trod enc Try.prog W 0 (fun _ => true) true 43 v d p) :
    ∃ ao c L, v = .slice ao L.length c ∧ Parts W (.slice ao L.length c) L ∧ L.length ≤ 9223372036854775807 ∧ ∀ p ∈ L, p.length ≤ 9223372036854775807 := by
  obtain ⟨a0, len, cap, rfl⟩ := okWide_slice Try.underlying43 hv
  obtain ⟨fuel, hf⟩ := h
  rcases Go.Deep.open_int_rows Try.underlying43 Try.underlying32 Try.underlying5 cBytes cU8 hf with ⟨hcs, hx⟩ | ⟨a, len', cap', A, L, C, Z, hcs, _, hl, hm, hx, hr⟩
  · simp only [Value.cells] at hcs
    injection hcs with hcs
    rw [hcs]
    exact ⟨none, 0, [], rfl, ⟨none, 0, rfl, fun j hj => by cases hj⟩, Nat.zero_le _, fun p hp => by cases hp⟩
  · simp only [Value.cells] at hcs
    injection hcs with hcs
    rw [hcs]
    unfold maxLen at hm hr
    have hrow : ∀ r, r < len' → (ofInts ((Z r).take (L r))).length = L r ∧ Sl W (.slice (A r) (L r) (C r)) (ofInts ((Z r).take (L r))) ∧ L r ≤ 9223372036854775807 := fun r hrl => by
      obtain ⟨h1, h2, h3, h4, h5, h6, h7⟩ := hr r (by omega)
      obtain ⟨b1, b2⟩ := sl_of_cells (W := W) h2 h4 h6 (fun z hz' => bounds_u8 (h5 z hz')) (fun a' ha j hj => (h7 a' ha).2 j hj)
      exact ⟨b1, b2, by omega⟩
    have hg : ∀ j, j < len' → ((List.range len').map fun r => ofInts ((Z r).take (L r))).getD j [] = ofInts ((Z j).take (L j)) := fun j hj => by simp [List.getD, hj]
    refine ⟨some a, cap', (List.range len').map fun r => ofInts ((Z r).take (L r)), by simp, ⟨some a, cap', by simp, fun j hj => ⟨a, rfl, A j, C j, ?_⟩⟩, by simp; omega, fun p hp => ?_⟩
    · have hjl : j < len' := by simpa using hj
      rw [hg j hjl, (hrow j hjl).1]
      exact ⟨(hr j (by omega)).1, (hrow j hjl).2.1⟩
    · obtain ⟨r, hr', rfl⟩ := List.mem_map.1 hp
      have := hrow r (List.mem_range.1 hr')
      rw [this.1]
      exact this.2.2
end Go.Proofs.Ytllnaocnojhlkaa.Dk
