/- Slices of numbers that came in. -/
import Derived.Test.YtkmhbbcppjckiaaNM
import Derived.Test.YtkmhbbcppjckiaaK0A
import Derived.ChangeSlices
namespace Go.Proofs.Ytkmhbbcppjckiaa.Qu
open Go Go.Proofs.Ytkmhbbcppjckiaa Go.RowKit Go.ChangeShapes Go.WideShapes Go.ChangeAt
open Go.Proofs.Ytkmhbbcppjckiaa.Hp (i64wf)
set_option linter.unusedVariables false
set_option maxRecDepth 100000
/-- Numbers in a slice that came in. -/
structure Zs (w : World) (ao : Option Addr) (zs : List Int) : Prop where
  none : ao = none → zs = []
  cell : ∀ ad, ao = some ad → ∀ (j : Nat) z, zs[j]? = some z → w.cell? (ad.add j) = some (.int .i64 z)
  wf : ∀ z ∈ zs, i64wf z
theorem Zs.below {w w' : World} {ao : Option Addr} {zs : List Int} {B : Nat} (h : Zs w ao zs) (hb : Below B w w') (hB : w.heap.size ≤ B) : Zs w' ao zs :=
  ⟨h.none, fun ad ha j z hz => by
    have hc := h.cell ad ha j z hz
    rw [hb.cell (Nat.lt_of_lt_of_le (World.block_lt_of_cell? w _ hc) hB)]
    exact hc, h.wf⟩
theorem open_zs {H : Type} {enc : TypeId × Value → H} {W : World} {base : Nat} {t e : TypeId} (ht : Try.prog.underlying t = some (.slice e)) (he : Try.prog.underlying e = some (.int .i64)) (hc1 : Try.prog.cellsOf e = 1) {v : Value} {d : DataW H} {p : List MemPlace} (hv : Value.okWide Try.prog W .any base t v) (h : DataW.Trod enc Try.prog W 0 (fun _ => true) true t v d p) :
    ∃ ao c zs, v = .slice ao zs.length c ∧ Zs W ao zs ∧ zs.length ≤ maxLen := by
  obtain ⟨a0, len, cap, rfl⟩ := okWide_slice ht hv
  obtain ⟨fuel, hf⟩ := h
  rcases open_ints ht he hc1 hf with ⟨hcs, hx⟩ | ⟨a, len', cap', zs, hcs, _, hl, hm, hz, hx, hcell, hwz⟩
  · simp only [Value.cells] at hcs
    injection hcs with hcs
    rw [hcs]
    exact ⟨none, 0, [], rfl, ⟨fun _ => rfl, (fun ad ha => by cases ha), (fun z hz => by cases hz)⟩, Nat.zero_le _⟩
  · simp only [Value.cells] at hcs
    injection hcs with hcs
    rw [hcs]
    simp only [if_true] at hz
    have hlen : (zs.take len').length = len' := by simp; omega
    refine ⟨some a, cap', zs.take len', (by rw [hlen]), ⟨(fun h => by cases h), ?_, fun z hz' => hwz z (List.mem_of_mem_take hz')⟩, by rw [hlen]; omega⟩
    intro a' ha j u hu
    cases ha
    have hjl : j < len' := by
      have := (List.getElem?_eq_some_iff.1 hu).1
      omega
    rw [List.getElem?_take, if_pos hjl] at hu
    rw [hcell j (by omega)]
    simp [List.getD, hu]
end Go.Proofs.Ytkmhbbcppjckiaa.Qu
