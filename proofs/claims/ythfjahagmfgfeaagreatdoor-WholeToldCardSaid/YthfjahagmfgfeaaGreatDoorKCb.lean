/- The calendar by two ways: years from January, and years from March. -/
import Derived.Test.YthfjahagmfgfeaaGreatDoorKCa
namespace Go.Proofs.YthfjahagmfgfeaaGreatDoor.Cr
open Go Go.RowKit
set_option linter.unusedVariables false
set_option linter.unusedSimpArgs false
/-- The days of so many years from one on that is a multiple of 400. -/
def bN (k : Nat) : Nat := 365 * k + (k + 3) / 4 - (k + 99) / 100 + (k + 399) / 400
theorem leap_mod {y0 k : Nat} (h : y0 % 400 = 0) : leap (y0 + k) = leap k := by
  unfold leap
  have h1 : (y0 + k) % 4 = k % 4 := by omega
  have h2 : (y0 + k) % 100 = k % 100 := by omega
  have h3 : (y0 + k) % 400 = k % 400 := by omega
  rw [h1, h2, h3]
theorem leap_iff (k : Nat) : leap k = true ↔ (k % 4 = 0 ∧ k % 100 ≠ 0) ∨ k % 400 = 0 := by simp [leap]
theorem up4 (k : Nat) : (k + 1 + 3) / 4 = (k + 3) / 4 + (if k % 4 = 0 then 1 else 0) := by split <;> omega
theorem up100 (k : Nat) : (k + 1 + 99) / 100 = (k + 99) / 100 + (if k % 100 = 0 then 1 else 0) := by split <;> omega
theorem up400 (k : Nat) : (k + 1 + 399) / 400 = (k + 399) / 400 + (if k % 400 = 0 then 1 else 0) := by split <;> omega
theorem up_le (k : Nat) : (k + 99) / 100 ≤ (k + 3) / 4 + 1 ∧ (k + 99) / 100 ≤ 365 * k := by omega
theorem bN_succ (k : Nat) : bN (k + 1) = bN k + ylen k := by
  have h1 := up4 k
  have h2 := up100 k
  have h3 := up400 k
  have h4 := up_le k
  unfold bN ylen
  have hl := leap_iff k
  rw [h1, h2, h3]
  generalize (k + 3) / 4 = A at *
  generalize (k + 99) / 100 = B at *
  generalize (k + 399) / 400 = C at *
  have e4 : k % 400 = 0 → k % 100 = 0 := by omega
  have e5 : k % 100 = 0 → k % 4 = 0 := by omega
  by_cases p4 : k % 4 = 0 <;> by_cases p100 : k % 100 = 0 <;> by_cases p400 : k % 400 = 0 <;> simp only [p4, p100, p400, if_true, if_false, ne_eq, not_true, not_false_iff, and_true, and_false, or_true, or_false, iff_true, iff_false, true_and, false_and, false_or, Bool.not_eq_true] at hl ⊢ <;> (try rw [hl]) <;> (try simp only [if_true, if_false, Bool.false_eq_true]) <;> (first | omega | exact absurd (e4 p400) p100 | exact absurd (e5 p100) p4)
theorem ylen_mod {y0 k : Nat} (h : y0 % 400 = 0) : ylen (y0 + k) = ylen k := by unfold ylen; rw [leap_mod h]
theorem yrOf_spec {y0 : Nat} (h0 : y0 % 400 = 0) : ∀ (r k0 : Nat), ∃ k r', yrOf (y0 + k0) r = (y0 + k, r') ∧ bN k0 + r = bN k + r' ∧ r' < ylen k := by
  intro r
  induction r using Nat.strongRecOn with
  | _ r ih =>
    intro k0
    by_cases h : r < ylen (y0 + k0)
    · exact ⟨k0, r, yrOf_stop h, rfl, by rw [ylen_mod h0] at h; exact h⟩
    · have hp := ylen_pos (y0 + k0)
      obtain ⟨k, r', h1, h2, h3⟩ := ih (r - ylen (y0 + k0)) (by omega) (k0 + 1)
      refine ⟨k, r', by rw [yrOf_go h, Nat.add_assoc]; exact h1, ?_, h3⟩
      rw [bN_succ] at h2
      rw [ylen_mod h0] at h2 h
      omega
theorem bN_mono {a b : Nat} (h : a ≤ b) : bN a ≤ bN b := by
  induction b with
  | zero => obtain rfl : a = 0 := by omega
            exact Nat.le_refl _
  | succ n ih =>
    by_cases e : a = n + 1
    · subst e; exact Nat.le_refl _
    · have := ih (by omega)
      rw [bN_succ]; omega
theorem bN400 : bN 400 = 146097 := by decide
/-- The reference's year of its 400. -/
def fY (n : Nat) : Nat := n - n / 1460 + n / 36524 - n / 146096
theorem fY_mono1 (n : Nat) : fY n ≤ fY (n + 1) := by unfold fY; omega
theorem fY_mono {a b : Nat} (h : a ≤ b) : fY a ≤ fY b := by
  induction b with
  | zero => obtain rfl : a = 0 := by omega
            exact Nat.le_refl _
  | succ n ih =>
    by_cases e : a = n + 1
    · subst e; exact Nat.le_refl _
    · exact Nat.le_trans (ih (by omega)) (fY_mono1 n)
/-- Days from the first of March on. -/
def sM (Y : Nat) : Nat := 365 * Y + Y / 4 - Y / 100
theorem ends_ok : ∀ Y, Y < 400 → 365 * Y ≤ fY (sM Y) ∧ fY (sM Y + (ylen (Y + 1) - 1)) < 365 * (Y + 1) := by decide +kernel
theorem fY_of {Y doy : Nat} (hY : Y < 400) (hd : doy < ylen (Y + 1)) : fY (sM Y + doy) / 365 = Y := by
  have h1 := (ends_ok Y hY).1
  have h2 := (ends_ok Y hY).2
  have h3 := fY_mono (show sM Y ≤ sM Y + doy by omega)
  have h4 := fY_mono (show sM Y + doy ≤ sM Y + (ylen (Y + 1) - 1) by omega)
  omega
/-- Month and day, counted from 0, of the days from March on. -/
theorem months_late : ∀ lp : Bool, ∀ doy, doy < 306 → mon [31, if lp = true then 29 else 28, 31, 30, 31, 30, 31, 31, 30, 31, 30, 31] 1 (doy + 59 + lp.toNat) = ((5 * doy + 2) / 153 + 3, doy - (153 * ((5 * doy + 2) / 153) + 2) / 5) := by decide +kernel
theorem months_early : ∀ lp : Bool, ∀ r, r < 59 + lp.toNat → mon [31, if lp = true then 29 else 28, 31, 30, 31, 30, 31, 31, 30, 31, 30, 31] 1 r = ((5 * (r + 306) + 2) / 153 + 3 - 12, r + 306 - (153 * ((5 * (r + 306) + 2) / 153) + 2) / 5) ∧ (5 * (r + 306) + 2) / 153 + 3 > 12 := by decide +kernel
theorem months_lo : ∀ doy, doy < 306 → (5 * doy + 2) / 153 + 3 ≤ 12 := by decide +kernel
theorem months_sub : ∀ doy, doy < 366 → (153 * ((5 * doy + 2) / 153) + 2) / 5 ≤ doy := by decide +kernel
theorem bN_sM : ∀ k, k < 400 → bN k + (leap k).toNat = sM k + 1 := by decide +kernel
theorem bN_sM' : ∀ k, k < 400 → 1 ≤ k → sM (k - 1) + 366 = bN k := by decide +kernel
theorem ylen_toNat (k : Nat) : ylen k = 365 + (leap k).toNat := by unfold ylen; cases leap k <;> rfl
theorem months_le : ∀ doy, doy < 366 → (5 * doy + 2) / 153 + 3 ≤ 14 := by decide +kernel
/-- The date as the reference reckons it. -/
def refN (t : Nat) : DateD :=
  let D := t / 1440
  let z := D + 730425
  let doe := z % 146097
  let yoe := fY doe / 365
  let doy := doe - sM yoe
  let mp := (5 * doy + 2) / 153
  ⟨if 12 < mp + 3 then yoe + 400 * (z / 146097) + 1 else yoe + 400 * (z / 146097), if 12 < mp + 3 then mp + 3 - 12 else mp + 3, doy - (153 * mp + 2) / 5 + 1, t / 60 % 24, t % 60, (D + 6) % 7⟩
/-- What the reference's steps need. -/
theorem ref_parts (D : Nat) : ∃ yoe doy era M, yoe < 400 ∧ doy < 366 ∧ (D + 730425) / 146097 = era ∧ (D + 730425) % 146097 = sM yoe + doy ∧ fY (sM yoe + doy) / 365 = yoe ∧
    yrOf (2000 + D / 146097 * 400) (D % 146097) = M ∧ M.1 = (if 12 < (5 * doy + 2) / 153 + 3 then yoe + 400 * era + 1 else yoe + 400 * era) ∧
    mon (mlens M.1) 1 M.2 = (if 12 < (5 * doy + 2) / 153 + 3 then (5 * doy + 2) / 153 + 3 - 12 else (5 * doy + 2) / 153 + 3, doy - (153 * ((5 * doy + 2) / 153) + 2) / 5) := by
  have h0 : (2000 + D / 146097 * 400) % 400 = 0 := by omega
  obtain ⟨k, r', hy, hs, hr⟩ := yrOf_spec h0 (D % 146097) 0
  rw [Nat.add_zero] at hy
  rw [show bN 0 = 0 from rfl, Nat.zero_add] at hs
  have hR : D % 146097 < 146097 := Nat.mod_lt _ (by decide)
  have hk : k < 400 := by
    rcases Nat.lt_or_ge k 400 with h | h
    · exact h
    · have := bN_mono h
      rw [bN400] at this
      omega
  have hl := leap_mod (k := k) h0
  have hsum := bN_sM k hk
  have hlp : (leap k).toNat ≤ 1 := by cases leap k <;> decide
  rw [ylen_toNat] at hr
  have hml : mlens (2000 + D / 146097 * 400 + k) = [31, if leap k = true then 29 else 28, 31, 30, 31, 30, 31, 31, 30, 31, 30, 31] := by unfold mlens feb; rw [hl]
  by_cases hA : 59 + (leap k).toNat ≤ r'
  · obtain ⟨doy, rfl⟩ : ∃ doy, r' = doy + 59 + (leap k).toNat := ⟨r' - 59 - (leap k).toNat, by omega⟩
    have hd : doy < 306 := by omega
    have hlo := months_lo doy hd
    refine ⟨k, doy, D / 146097 + 5, _, hk, by omega, by omega, by omega, fY_of hk (by have := ylen_pos (k + 1); omega), hy, ?_, ?_⟩
    · rw [if_neg (by omega)]; dsimp only; omega
    · dsimp only
      rw [if_neg (by omega), hml]
      exact months_late (leap k) doy hd
  · have hE := months_early (leap k) r' (by omega)
    rcases Nat.eq_zero_or_pos k with rfl | hk1
    · have hl0 : (leap 0).toNat = 1 := by decide
      rw [hl0] at hA hr hsum
      have hb0 : bN 0 = 0 := by decide
      have hs399 : sM 399 = 145731 := by decide
      have hy400 : ylen 400 = 366 := by decide
      refine ⟨399, r' + 306, D / 146097 + 4, _, by decide, by omega, by omega, by omega, fY_of (by decide) (by rw [show 399 + 1 = 400 from rfl, hy400]; omega), hy, ?_, ?_⟩
      · rw [if_pos hE.2]; dsimp only; omega
      · dsimp only
        rw [if_pos hE.2, hml]
        exact hE.1
    · have hs' := bN_sM' k hk hk1
      have hyl := ylen_toNat k
      refine ⟨k - 1, r' + 306, D / 146097 + 5, _, by omega, by omega, by omega, by omega, fY_of (by omega) (by rw [show k - 1 + 1 = k by omega, hyl]; omega), hy, ?_, ?_⟩
      · rw [if_pos hE.2]; dsimp only; omega
      · dsimp only
        rw [if_pos hE.2, hml]
        exact hE.1
theorem refN_eq (t : Nat) : refN t = dateN t := by
  obtain ⟨yoe, doy, era, M, h1, h2, h3, h4, h5, h6, h7, h8⟩ := ref_parts (t / 1440)
  rw [h7] at h8
  unfold refN dateN
  simp only [h3, h4, h5, h6, Nat.add_sub_cancel_left, h7, h8]
  have a1 : t / 60 % 24 = t % 1440 / 60 := by omega
  have a2 : t % 60 = t % 1440 % 60 := by omega
  have a3 : (t / 1440 + 6) % 7 = (6 + t / 1440) % 7 := by omega
  rw [a1, a2, a3]
end Go.Proofs.YthfjahagmfgfeaaGreatDoor.Cr
