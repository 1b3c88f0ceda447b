/- A mark that is laid is read again. -/
import Derived.Test.YtgbmkolpdnenlaaMl
namespace Go.Proofs.Ytgbmkolpdnenlaa.Dk
open Go Go.RowKit
set_option linter.unusedVariables false
set_option linter.unusedSimpArgs false
theorem wordN_app (p q r : List UInt8) : ∀ k, k ≤ q.length → wordN (p ++ q ++ r) p.length k = wordN q 0 k
  | 0, _ => rfl
  | k + 1, h => by
    unfold wordN
    rw [wordN_app p q r k (by omega)]
    congr 3
    simp only [List.getD_eq_getElem?_getD, Nat.zero_add]
    rw [List.append_assoc, List.getElem?_append_right (by omega), Nat.add_sub_cancel_left, List.getElem?_append_left (by omega)]
theorem leTo_get (n : Nat) : ∀ k j : Nat, j < k → ((leTo n k).getD j 0).toNat = n / 256 ^ j % 256
  | 0, j, h => absurd h (by omega)
  | k + 1, j, h => by
    unfold leTo
    by_cases hj : j < k
    · rw [List.getD_eq_getElem?_getD, List.getElem?_append_left (by rw [leTo_length]; exact hj), ← List.getD_eq_getElem?_getD]
      exact leTo_get n k j hj
    · obtain rfl : j = k := by omega
      rw [List.getD_eq_getElem?_getD, List.getElem?_append_right (by rw [leTo_length]; exact Nat.le_refl _), leTo_length, Nat.sub_self]
      simp [UInt8.toNat_ofNat']
theorem wordN_leTo (n : Nat) : ∀ k, k ≤ 8 → wordN (leTo n 8) 0 k = n % 256 ^ k
  | 0, _ => by simp [wordN, Nat.mod_one]
  | k + 1, h => by
    unfold wordN
    rw [wordN_leTo n k (by omega), Nat.zero_add, leTo_get n 8 k (by omega), Nat.pow_succ, Nat.mod_mul, Nat.mul_comm]
theorem word_flat : ∀ (Ns : List Nat) (p r : List UInt8) (i : Nat), i < Ns.length → wordN (p ++ ((Ns.map (leTo · 8)).flatten ++ r)) (p.length + 8 * i) 8 = Ns.getD i 0 % 256 ^ 8
  | [], _, _, _, h => absurd h (by simp)
  | n :: Ns, p, r, 0, _ => by
    rw [List.map_cons, List.flatten_cons, Nat.mul_zero, Nat.add_zero, ← List.append_assoc, ← List.append_assoc, List.append_assoc (p ++ leTo n 8)]
    rw [wordN_app p (leTo n 8) _ 8 (by rw [leTo_length]; exact Nat.le_refl _), wordN_leTo n 8 (Nat.le_refl _)]
    rfl
  | n :: Ns, p, r, i + 1, h => by
    have ih := word_flat Ns (p ++ leTo n 8) r i (by simpa using h)
    rw [List.length_append, leTo_length] at ih
    rw [List.map_cons, List.flatten_cons, show p.length + 8 * (i + 1) = p.length + 8 + 8 * i by omega, List.append_assoc (leTo n 8), ← List.append_assoc p, ih]
    rfl
theorem bodyM_flat {mk : MkD} (h : mk.W.length = 6) : bodyM mk 6 = (((mk.seq :: mk.W).map (leTo · 8)).flatten) := by
  unfold bodyM
  rw [List.take_of_length_le (by omega)]
  rfl
theorem layM_word {mk : MkD} (h : mk.Ok) {i : Nat} (hi : i < 7) : wordN (layM mk) (8 * i) 8 = (mk.seq :: mk.W).getD i 0 := by
  have h1 := word_flat (mk.seq :: mk.W) [] (bodyM mk 6 ++ List.replicate 16 0) i (by simp [h.len]; omega)
  rw [List.nil_append, List.length_nil, Nat.zero_add, ← bodyM_flat h.len, ← List.append_assoc] at h1
  unfold layM
  rw [h1]
  refine Nat.mod_eq_of_lt ?_
  have e : (256 : Nat) ^ 8 = 18446744073709551616 := by decide
  rw [e]
  cases i with
  | zero => exact h.seq
  | succ i =>
    have hl : i < mk.W.length := by rw [h.len]; omega
    show mk.W.getD i 0 < _
    rw [List.getD_eq_getElem?_getD, List.getElem?_eq_getElem hl]
    exact h.W _ (List.getElem_mem hl)
/-- A mark that is laid is read again. -/
theorem readM_layM {mk : MkD} (h : mk.Ok) : readM (layM mk) = mk := by
  obtain ⟨s, W⟩ := mk
  have h0 := layM_word h (i := 0) (by decide)
  unfold readM
  have hW : ((List.range 6).map fun i => wordN (layM ⟨s, W⟩) (8 * (1 + i)) 8) = W := by
    have hl : W.length = 6 := h.len
    apply List.ext_getElem (by simp [hl])
    intro i h1 h2
    rw [List.getElem_map, List.getElem_range, layM_word h (by simp at h1; omega)]
    rw [Nat.add_comm 1 i]
    show W.getD i 0 = _
    rw [List.getD_eq_getElem?_getD, List.getElem?_eq_getElem h2]
    rfl
  rw [hW]
  have : wordN (layM ⟨s, W⟩) 0 8 = s := h0
  rw [this]
theorem layM_second {mk : MkD} (h : mk.Ok) : wordN (layM mk) 56 8 = mk.seq := by
  have h1 := word_flat (mk.seq :: mk.W) (bodyM mk 6) (List.replicate 16 0) 0 (by simp)
  rw [bodyM_length h.len (Nat.le_refl _), ← bodyM_flat h.len, ← List.append_assoc] at h1
  unfold layM
  have e : (256 : Nat) ^ 8 = 18446744073709551616 := by decide
  rw [show 8 * (1 + 6) + 8 * 0 = 56 from rfl] at h1
  rw [h1, e]
  exact Nat.mod_eq_of_lt h.seq
/-- Where a mark stands on its own sector, it is one. -/
theorem isM_layM {mk : MkD} (h : mk.Ok) (i : Nat) : isM (layM mk) i ↔ mk.seq % 2 = i := by
  unfold isM
  rw [readM_layM h]
  simp
end Go.Proofs.Ytgbmkolpdnenlaa.Dk
