/- The reference's split and part: their theory; a row of texts. -/
import Derived.Test.YthebkckcnmjehaaDoorYf
import Derived.Test.YthebkckcnmjehaaDoorCi
import Derived.Test.YthebkckcnmjehaaDoorApp
import Derived.Test.YthebkckcnmjehaaDoorYh
namespace Go.Proofs.YthebkckcnmjehaaDoor
open Go Go.RowKit
set_option linter.unusedVariables false
set_option linter.unusedSimpArgs false
theorem splitL_at (c : UInt8) (l : List UInt8) (k : Nat) (hk : k < l.length) (h : ∀ j, j < k → l.getD j 0 ≠ c) (hc : l.getD k 0 = c) : splitL c l = l.take k :: splitL c (l.drop (k + 1)) := by
  rw [splitL_cut, cutL_at c l k hk h hc]
  rfl
theorem splitL_no (c : UInt8) (l : List UInt8) (h : ∀ j, j < l.length → l.getD j 0 ≠ c) : splitL c l = [l] := by
  rw [splitL_cut, cutL_no c l h]
  rfl
/-- The pieces that were split off, from where on is left, and how far it was looked. -/
def SpSt (c : UInt8) (l : List UInt8) (k f : Nat) (P : List (List UInt8)) : Prop :=
  k ≤ l.length ∧ f ≤ k ∧ P.length ≤ k ∧ splitL c l = P ++ splitL c (l.drop f) ∧ ∀ j, f ≤ j → j < k → l.getD j 0 ≠ c
theorem SpSt.zero (c : UInt8) (l : List UInt8) : SpSt c l 0 0 [] := ⟨Nat.zero_le _, Nat.le_refl _, Nat.le_refl _, by simp, fun j h1 h2 => absurd h2 (Nat.not_lt_zero j)⟩
theorem SpSt.skip {c : UInt8} {l : List UInt8} {k f : Nat} {P : List (List UInt8)} (h : SpSt c l k f P) (hk : k < l.length) (hc : l.getD k 0 ≠ c) : SpSt c l (k + 1) f P :=
  ⟨hk, Nat.le_succ_of_le h.2.1, Nat.le_succ_of_le h.2.2.1, h.2.2.2.1, fun j h1 h2 => by
    by_cases e : j = k
    · rw [e]; exact hc
    · exact h.2.2.2.2 j h1 (by omega)⟩
theorem getD_drop (l : List UInt8) (f j : Nat) : (l.drop f).getD j 0 = l.getD (f + j) 0 := by simp [List.getD, List.getElem?_drop]
theorem SpSt.cut {c : UInt8} {l : List UInt8} {k f : Nat} {P : List (List UInt8)} (h : SpSt c l k f P) (hk : k < l.length) (hc : l.getD k 0 = c) : SpSt c l (k + 1) (k + 1) (P ++ [(l.take k).drop f]) := by
  obtain ⟨h1, h2, h3, h4, h5⟩ := h
  refine ⟨hk, Nat.le_refl _, by simp; exact h3, ?_, fun j a b => by omega⟩
  have e := splitL_at c (l.drop f) (k - f) (by simp; omega) (fun j hj => by rw [getD_drop]; exact h5 _ (by omega) (by omega)) (by rw [getD_drop, show f + (k - f) = k by omega]; exact hc)
  rw [h4, e, List.append_assoc, List.singleton_append]
  congr 2
  · rw [← List.drop_take]
  · rw [List.drop_drop]
    congr 2
    omega
theorem SpSt.done {c : UInt8} {l : List UInt8} {f : Nat} {P : List (List UInt8)} (h : SpSt c l l.length f P) : splitL c l = P ++ [l.drop f] := by
  obtain ⟨h1, h2, h3, h4, h5⟩ := h
  rw [h4, splitL_no c (l.drop f) (fun j hj => by rw [getD_drop]; exact h5 _ (by omega) (by simp at hj; omega))]
/-- A row of texts in memory. -/
def StrRow (w : World) (ao : Option Addr) (P : List (List UInt8)) : Prop := ∀ j, j < P.length → ∃ gp, ao = some ⟨gp, 0, none⟩ ∧ gp < w.heap.size ∧ w.cell? ⟨gp, j, none⟩ = some (.string (str (P.getD j [])))
theorem StrRow.below {w w' : World} {C : Nat} {ao : Option Addr} {P : List (List UInt8)} (h : StrRow w ao P) (hb : Below C w w') (hC : w.heap.size ≤ C) : StrRow w' ao P := fun j hj => by
  obtain ⟨gp, h1, h3, h4⟩ := h j hj
  exact ⟨gp, h1, Nat.lt_of_lt_of_le h3 hb.size, by rw [hb.cell (p := ⟨gp, j, none⟩) (by simp; omega)]; exact h4⟩
/-- The numbers that were taken: q is the next one that is, from n on. -/
def ApSt (t s f n q : Nat) (L : List Nat) : Prop := n ≤ q ∧ q < n + s ∧ (∃ j, q = f + j * s) ∧ ap t s f = L ++ ap t s q
theorem ApSt.zero (t s f : Nat) (hs : 0 < s) : ApSt t s f f f [] := ⟨Nat.le_refl _, by omega, ⟨0, by omega⟩, rfl⟩
theorem ApSt.mod {t s f n q : Nat} {L : List Nat} (h : ApSt t s f n q L) (hf : f ≤ n) (hs : 0 < s) : ((n - f) % s = 0) ↔ n = q := by
  obtain ⟨h1, h2, ⟨j, h3⟩, h4⟩ := h
  constructor
  · intro e
    obtain ⟨m, hm⟩ := Nat.dvd_of_mod_eq_zero e
    have e1 : n = f + s * m := by omega
    subst h3
    rw [e1] at h1 h2 ⊢
    have a1 : s * m ≤ j * s := by omega
    have a2 : j * s < s * (m + 1) := by rw [Nat.mul_add]; omega
    rw [Nat.mul_comm j s] at a1 a2 ⊢
    have b1 := Nat.le_of_mul_le_mul_left a1 hs
    have b2 := Nat.lt_of_mul_lt_mul_left a2
    have : j = m := by omega
    rw [this]
  · intro e
    rw [e, h3, Nat.add_sub_cancel_left, Nat.mul_mod_left]
theorem ApSt.take {t s f n : Nat} {L : List Nat} (h : ApSt t s f n n L) (hs : 0 < s) (ht : n ≤ t) : ApSt t s f (n + 1) (n + s) (L ++ [n]) := by
  obtain ⟨h1, h2, ⟨j, h3⟩, h4⟩ := h
  refine ⟨by omega, by omega, ⟨j + 1, by rw [Nat.add_mul]; omega⟩, ?_⟩
  rw [h4, ap_go ht hs]
  simp
theorem ApSt.skip {t s f n q : Nat} {L : List Nat} (h : ApSt t s f n q L) (hq : n ≠ q) : ApSt t s f (n + 1) q L := by
  obtain ⟨h1, h2, h3, h4⟩ := h
  exact ⟨by omega, by omega, h3, h4⟩
theorem ApSt.done {t s f n q : Nat} {L : List Nat} (h : ApSt t s f n q L) (ht : t < n) : ap t s f = L := by
  obtain ⟨h1, h2, h3, h4⟩ := h
  rw [h4, ap_stop (by omega), List.append_nil]
end Go.Proofs.YthebkckcnmjehaaDoor
