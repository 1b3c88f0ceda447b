/- An argument that is a slice of bytes: what of it the walks ask. -/
import Derived.Test.YtcjnfmlpjolfpaaFin
namespace Go.Proofs.Ytcjnfmlpjolfpaa
open Go Go.RowKit Go.ChangeShapes Go.WideShapes Go.ChangeAt
set_option linter.unusedVariables false

/-- Bytes out of numbers. -/
def ofInts (zs : List Int) : List UInt8 := zs.map fun z => UInt8.ofNat z.toNat
theorem ofInts_get (zs : List Int) (hz : ∀ z ∈ zs, 0 ≤ z ∧ z ≤ 255) (j : Nat) (u : Value) (h : (bvs (ofInts zs))[j]? = some u) : j < zs.length ∧ u = .int .u8 (zs.getD j 0) := by
  have hj : j < zs.length := by
    have := (List.getElem?_eq_some_iff.1 h).1
    simpa [bvs, ofInts] using this
  refine ⟨hj, ?_⟩
  have hb := hz zs[j] (List.getElem_mem hj)
  have e : (bvs (ofInts zs))[j]? = some (bv (UInt8.ofNat zs[j].toNat)) := by simp [bvs, ofInts, hj]
  rw [e] at h
  injection h with h
  rw [← h]
  simp only [bv, List.getD, List.getElem?_eq_getElem hj, Option.getD_some]
  congr 1
  rw [UInt8.toNat_ofNat']
  omega

/-- A slice of bytes that came in. -/
theorem open_bytes {H : Type} {enc : TypeId × Value → H} {W : World} {base : Nat} {v : Value} {d : DataW H} {p : List MemPlace} (hv : Value.okWide Try.prog W .any base 24 v) (h : DataW.Trod enc Try.prog W 0 (fun _ => true) true 24 v d p) :
    ∃ ao c xs, v = .slice ao xs.length c ∧ Sl W (.slice ao xs.length c) xs ∧ xs.length ≤ c ∧ c ≤ 9223372036854775807 := by
  obtain ⟨a0, len, cap, rfl⟩ := okWide_slice Try.underlying24 hv
  obtain ⟨fuel, hf⟩ := h
  rcases open_ints Try.underlying24 Try.underlying5 (by kernel_rfl) hf with ⟨hcs, hx⟩ | ⟨a, len', cap', zs, hcs, _, hl, hm, hz, hx, hcell, hwz⟩
  · simp only [Value.cells] at hcs
    injection hcs with hcs
    rw [hcs]
    exact ⟨none, 0, [], rfl, ⟨none, 0, rfl, (fun _ => rfl), (fun a ha => by cases ha)⟩, by simp, by omega⟩
  · simp only [Value.cells] at hcs
    injection hcs with hcs
    rw [hcs]
    simp only [if_true] at hz
    have hb : ∀ z ∈ zs.take len', 0 ≤ z ∧ z ≤ 255 := fun z hz' => bounds_u8 (hwz z (List.mem_of_mem_take hz'))
    have hlen : (ofInts (zs.take len')).length = len' := by simp [ofInts]; omega
    refine ⟨some a, cap', ofInts (zs.take len'), (by rw [hlen]), ⟨some a, cap', rfl, (fun h => by cases h), ?_⟩, (by omega), (by unfold maxLen at hm; omega)⟩
    intro a' ha j u hu
    cases ha
    obtain ⟨hj, rfl⟩ := ofInts_get _ hb j u hu
    have hj' : j < len' := by have : (zs.take len').length ≤ len' := List.length_take_le _ _; omega
    rw [hcell j (by omega)]
    simp [List.getD, hj']

theorem Sl.below {w w' : World} {v : Value} {xs : List UInt8} (h : Sl w v xs) (hb : Below w.heap.size w w') : Sl w' v xs := by
  obtain ⟨ao, c, rfl, hno, hs⟩ := h
  refine ⟨ao, c, rfl, hno, fun a ha j u hu => ?_⟩
  have := hs a ha j u hu
  rw [hb.cell (World.block_lt_of_cell? w _ this)]
  exact this
/-- The first ones of a slice. -/
theorem Sl.convert {w : World} {ao : Option Addr} {n c : Nat} {ys : List UInt8} (h : Sl w (.slice ao n c) ys) : (Go.convert 24 9 (.slice ao n c)).run Try.prog w = .ok (.string (str ys)) w ∧ ys.length = n := by
  obtain ⟨ao', c', e, hno, hs⟩ := h
  injection e with e1 e2 e3
  subst e1 e2 e3
  exact ⟨run_convert_sl rfl hno hs, rfl⟩
theorem Sl.front {w : World} {ao : Option Addr} {n c k : Nat} {ys : List UInt8} (h : Sl w (.slice ao n c) ys) (hk : k ≤ n) (c' : Nat) : Sl w (.slice ao k c') (ys.take k) := by
  obtain ⟨ao', c'', e, hno, hs⟩ := h
  injection e with e1 e2 e3
  subst e1 e2 e3
  refine ⟨ao, c', by simp [Nat.min_eq_left hk], fun e => by rw [hno e]; simp, fun a ha j u hu => ?_⟩
  refine hs a ha j u ?_
  simp only [bvs, List.map_take] at hu ⊢
  rw [List.getElem?_take] at hu
  split at hu
  · exact hu
  · cases hu
theorem read_sl {w : World} {ao : Option Addr} {c : Nat} {xs : List UInt8} (hS : Sl w (.slice ao xs.length c) xs) (hsz : xs.length ≤ 140737488355328) :
    Calls Try.prog 18 #[.slice ao xs.length c] w fun e w' => ∃ b r, e = .returned (.pointer (some ⟨b, 0, none⟩)) ∧ Rd w' b r xs 0 0 ∧ Below w.heap.size w w' ∧ w.heap.size ≤ b ∧ (∀ g, r = some g → w.heap.size ≤ g) := by
  obtain ⟨ao', c', e', q2, q3⟩ := hS
  injection e' with e1 e2 e3
  subst e1 e3
  exact read_any ao xs.length c xs rfl (fun h => by rw [q2 h]; rfl) q3 hsz
end Go.Proofs.Ytcjnfmlpjolfpaa
