/- One day in turn: the theory of CronDays. -/
import Derived.Test.YtdifhgfgppddpaaDoorCb
namespace Go.Proofs.YtdifhgfgppddpaaDoor
open Go Go.RowKit
set_option linter.unusedVariables false
set_option linter.unusedSimpArgs false
/-- The year of a day, and which of the year's days it is. -/
def dayY (D : Nat) : Nat × Nat := yrOf (2000 + D / 146097 * 400) (D % 146097)
theorem bN_uniq {k r k2 r2 : Nat} (h : bN k + r = bN k2 + r2) (h1 : r < ylen k) (h2 : r2 < ylen k2) : k = k2 ∧ r = r2 := by
  have e : k = k2 := by
    rcases Nat.lt_trichotomy k k2 with h3 | h3 | h3
    · have := bN_mono (show k + 1 ≤ k2 from h3)
      rw [bN_succ] at this
      omega
    · exact h3
    · have := bN_mono (show k2 + 1 ≤ k from h3)
      rw [bN_succ] at this
      omega
  subst e
  exact ⟨rfl, by omega⟩
theorem yrOf_at {y0 k r R : Nat} (h0 : y0 % 400 = 0) (h : bN k + r = R) (hr : r < ylen k) : yrOf y0 R = (y0 + k, r) := by
  obtain ⟨k2, r2, h1, h2, h3⟩ := yrOf_spec h0 R 0
  rw [Nat.add_zero] at h1
  rw [show bN 0 = 0 from rfl, Nat.zero_add] at h2
  obtain ⟨e1, e2⟩ := bN_uniq (h.trans h2) hr h3
  rw [h1, e1, e2]
theorem y0_mod (c : Nat) : (2000 + c * 400) % 400 = 0 := by omega
theorem dayY_next (D : Nat) : dayY (D + 1) = if (dayY D).2 + 1 < ylen (dayY D).1 then ((dayY D).1, (dayY D).2 + 1) else ((dayY D).1 + 1, 0) := by
  have h0 : (2000 + D / 146097 * 400) % 400 = 0 := by omega
  obtain ⟨k, r, h1, h2, h3⟩ := yrOf_spec h0 (D % 146097) 0
  rw [Nat.add_zero] at h1
  rw [show bN 0 = 0 from rfl, Nat.zero_add] at h2
  have hd : dayY D = (2000 + D / 146097 * 400 + k, r) := h1
  have hR : D % 146097 < 146097 := Nat.mod_lt _ (by decide)
  rw [hd]
  dsimp only
  rw [ylen_mod h0]
  have hs := bN_succ k
  by_cases hlast : D % 146097 + 1 = 146097
  · have e1 : (D + 1) / 146097 = D / 146097 + 1 := by omega
    have e2 : (D + 1) % 146097 = 0 := by omega
    have e3 := bN_uniq (k := k) (r := r) (k2 := 399) (r2 := 364) (by rw [← h2]; have : bN 399 = 145732 := by decide
                                                                     omega) h3 (by decide)
    obtain ⟨rfl, rfl⟩ := e3
    have hy : ylen 399 = 365 := by decide
    rw [if_neg (by rw [hy]; decide)]
    unfold dayY
    rw [e1, e2, yrOf_at (y0 := 2000 + (D / 146097 + 1) * 400) (k := 0) (r := 0) (R := 0) (y0_mod _) rfl (by decide)]
    simp only [Prod.mk.injEq, and_true]
    omega
  · have e1 : (D + 1) / 146097 = D / 146097 := by omega
    have e2 : (D + 1) % 146097 = D % 146097 + 1 := by omega
    unfold dayY
    rw [e1, e2]
    by_cases hr : r + 1 < ylen k
    · rw [if_pos hr]
      exact yrOf_at h0 (by omega) hr
    · rw [if_neg hr]
      have := yrOf_at (k := k + 1) (r := 0) (R := D % 146097 + 1) h0 (by rw [hs]; omega) (by have := ylen_pos (k + 1); omega)
      rw [this]
      simp only [Prod.mk.injEq, and_true]
      omega
theorem dayY_lt (D : Nat) : (dayY D).2 < ylen (dayY D).1 := (yrOf_lt _ _).1
theorem dayY_400 (D : Nat) : dayY (D + 146097) = ((dayY D).1 + 400, (dayY D).2) := by
  have h0 : (2000 + D / 146097 * 400) % 400 = 0 := by omega
  obtain ⟨k, r, h1, h2, h3⟩ := yrOf_spec h0 (D % 146097) 0
  rw [Nat.add_zero] at h1
  rw [show bN 0 = 0 from rfl, Nat.zero_add] at h2
  have hd : dayY D = (2000 + D / 146097 * 400 + k, r) := h1
  rw [hd]
  unfold dayY
  have e1 : (D + 146097) / 146097 = D / 146097 + 1 := by omega
  have e2 : (D + 146097) % 146097 = D % 146097 := by omega
  have h5 := yrOf_at (y0 := 2000 + (D / 146097 + 1) * 400) (k := k) (r := r) (R := D % 146097) (y0_mod _) h2.symm h3
  rw [e1, e2, h5]
  simp only [Prod.mk.injEq, and_true]
  omega
theorem mon_next : ∀ lp : Bool, ∀ r, r + 1 < 365 + lp.toNat →
    ((mon [31, if lp = true then 29 else 28, 31, 30, 31, 30, 31, 31, 30, 31, 30, 31] 1 (r + 1)).1 = (mon [31, if lp = true then 29 else 28, 31, 30, 31, 30, 31, 31, 30, 31, 30, 31] 1 r).1 ∧
      (mon [31, if lp = true then 29 else 28, 31, 30, 31, 30, 31, 31, 30, 31, 30, 31] 1 (r + 1)).2 = (mon [31, if lp = true then 29 else 28, 31, 30, 31, 30, 31, 31, 30, 31, 30, 31] 1 r).2 + 1 ∧
      (mon [31, if lp = true then 29 else 28, 31, 30, 31, 30, 31, 31, 30, 31, 30, 31] 1 r).2 < 30) ∨
    ((mon [31, if lp = true then 29 else 28, 31, 30, 31, 30, 31, 31, 30, 31, 30, 31] 1 (r + 1)).1 = (mon [31, if lp = true then 29 else 28, 31, 30, 31, 30, 31, 31, 30, 31, 30, 31] 1 r).1 + 1 ∧
      (mon [31, if lp = true then 29 else 28, 31, 30, 31, 30, 31, 31, 30, 31, 30, 31] 1 (r + 1)).2 = 0 ∧
      (mon [31, if lp = true then 29 else 28, 31, 30, 31, 30, 31, 31, 30, 31, 30, 31] 1 r).1 ≠ 12 ∧ 27 ≤ (mon [31, if lp = true then 29 else 28, 31, 30, 31, 30, 31, 31, 30, 31, 30, 31] 1 r).2) := by
  intro lp r hr
  have key : ∀ lp : Bool, ∀ r, r < 366 → r + 1 < 365 + lp.toNat →
    ((mon [31, if lp = true then 29 else 28, 31, 30, 31, 30, 31, 31, 30, 31, 30, 31] 1 (r + 1)).1 = (mon [31, if lp = true then 29 else 28, 31, 30, 31, 30, 31, 31, 30, 31, 30, 31] 1 r).1 ∧
      (mon [31, if lp = true then 29 else 28, 31, 30, 31, 30, 31, 31, 30, 31, 30, 31] 1 (r + 1)).2 = (mon [31, if lp = true then 29 else 28, 31, 30, 31, 30, 31, 31, 30, 31, 30, 31] 1 r).2 + 1 ∧
      (mon [31, if lp = true then 29 else 28, 31, 30, 31, 30, 31, 31, 30, 31, 30, 31] 1 r).2 < 30) ∨
    ((mon [31, if lp = true then 29 else 28, 31, 30, 31, 30, 31, 31, 30, 31, 30, 31] 1 (r + 1)).1 = (mon [31, if lp = true then 29 else 28, 31, 30, 31, 30, 31, 31, 30, 31, 30, 31] 1 r).1 + 1 ∧
      (mon [31, if lp = true then 29 else 28, 31, 30, 31, 30, 31, 31, 30, 31, 30, 31] 1 (r + 1)).2 = 0 ∧
      (mon [31, if lp = true then 29 else 28, 31, 30, 31, 30, 31, 31, 30, 31, 30, 31] 1 r).1 ≠ 12 ∧ 27 ≤ (mon [31, if lp = true then 29 else 28, 31, 30, 31, 30, 31, 31, 30, 31, 30, 31] 1 r).2) := by decide +kernel
  have hlp : lp.toNat ≤ 1 := by cases lp <;> decide
  exact key lp r (by omega) hr
theorem mon_last : ∀ lp : Bool, mon [31, if lp = true then 29 else 28, 31, 30, 31, 30, 31, 31, 30, 31, 30, 31] 1 (364 + lp.toNat) = (12, 30) := by decide +kernel
theorem mlens_leap (y : Nat) : mlens y = [31, if leap y = true then 29 else 28, 31, 30, 31, 30, 31, 31, 30, 31, 30, 31] := rfl
theorem dateN_day (t : Nat) : dateN t = ⟨(dayY (t / 1440)).1, (mon (mlens (dayY (t / 1440)).1) 1 (dayY (t / 1440)).2).1, (mon (mlens (dayY (t / 1440)).1) 1 (dayY (t / 1440)).2).2 + 1, t % 1440 / 60, t % 1440 % 60, (6 + t / 1440) % 7⟩ := rfl
/-- A day and the next one. -/
theorem date_next (t : Nat) : (dateN (t + 1440)).h = (dateN t).h ∧ (dateN (t + 1440)).mi = (dateN t).mi ∧ (dateN (t + 1440)).w = ((dateN t).w + 1) % 7 ∧
    (((dateN (t + 1440)).y = (dateN t).y ∧ (dateN (t + 1440)).m = (dateN t).m ∧ (dateN (t + 1440)).d = (dateN t).d + 1 ∧ (dateN t).d + 1 ≤ 31) ∨
     ((dateN (t + 1440)).y = (dateN t).y ∧ (dateN (t + 1440)).m = (dateN t).m + 1 ∧ (dateN (t + 1440)).d = 1 ∧ (dateN t).m ≠ 12 ∧ 28 ≤ (dateN t).d) ∨
     ((dateN (t + 1440)).y = (dateN t).y + 1 ∧ (dateN (t + 1440)).m = 1 ∧ (dateN (t + 1440)).d = 1 ∧ (dateN t).m = 12 ∧ (dateN t).d = 31)) := by
  have e1 : (t + 1440) / 1440 = t / 1440 + 1 := by omega
  have e2 : (t + 1440) % 1440 = t % 1440 := by omega
  rw [dateN_day, dateN_day, e1, e2]
  dsimp only
  refine ⟨rfl, rfl, by omega, ?_⟩
  have hn := dayY_next (t / 1440)
  have hl := dayY_lt (t / 1440)
  generalize dayY (t / 1440) = Z at hn hl ⊢
  obtain ⟨Y, r⟩ := Z
  dsimp only at hn hl ⊢
  rw [ylen_toNat] at hn hl
  by_cases h : r + 1 < 365 + (leap Y).toNat
  · rw [if_pos h] at hn
    rw [hn]
    dsimp only
    rw [mlens_leap]
    rcases mon_next (leap Y) r h with ⟨h1, h2, h3⟩ | ⟨h1, h2, h3, h4⟩
    · exact Or.inl ⟨by first | rfl | trivial, h1, by omega, by omega⟩
    · exact Or.inr (Or.inl ⟨by first | rfl | trivial, h1, by omega, h3, by omega⟩)
  · rw [if_neg h] at hn
    rw [hn]
    dsimp only
    obtain rfl : r = 364 + (leap Y).toNat := by omega
    rw [mlens_leap Y, mon_last (leap Y)]
    exact Or.inr (Or.inr ⟨by first | rfl | trivial, rfl, rfl, rfl, rfl⟩)
theorem date_400 (t : Nat) : (dateN (t + 210379680)).y = (dateN t).y + 400 ∧ (dateN (t + 210379680)).m = (dateN t).m ∧ (dateN (t + 210379680)).d = (dateN t).d ∧ (dateN (t + 210379680)).w = (dateN t).w := by
  have e1 : (t + 210379680) / 1440 = t / 1440 + 146097 := by omega
  rw [dateN_day, dateN_day, e1, dayY_400]
  dsimp only
  have hl : mlens ((dayY (t / 1440)).1 + 400) = mlens (dayY (t / 1440)).1 := by
    rw [mlens_leap, mlens_leap]
    have : leap ((dayY (t / 1440)).1 + 400) = leap (dayY (t / 1440)).1 := by
      unfold leap
      have a1 : ((dayY (t / 1440)).1 + 400) % 4 = (dayY (t / 1440)).1 % 4 := by omega
      have a2 : ((dayY (t / 1440)).1 + 400) % 100 = (dayY (t / 1440)).1 % 100 := by omega
      have a3 : ((dayY (t / 1440)).1 + 400) % 400 = (dayY (t / 1440)).1 % 400 := by omega
      rw [a1, a2, a3]
    rw [this]
  rw [hl]
  exact ⟨rfl, rfl, rfl, by omega⟩
end Go.Proofs.YtdifhgfgppddpaaDoor
