/- A number that is read is just the one that is written so: plain lists and arithmetic. -/
import Derived.Test.YtcjnfmlpjolfpaaRt
namespace Go.Proofs.Ytcjnfmlpjolfpaa
open Go Go.RowKit
set_option linter.unusedVariables false

theorem rb_ok {xs : List UInt8} {k : Nat} (h : k < xs.length) : rb xs k 0 = (xs[k], k + 1, 0) := by simp [rb, h, List.getD]
theorem rb_short {xs : List UInt8} {k : Nat} (h : xs.length ≤ k) : rb xs k 0 = (0, k, 6) := by simp [rb]; omega
theorem rb_err {xs : List UInt8} {k : Nat} {e : Int} (h : e ≠ 0) : rb xs k e = (0, k, e) := by simp [rb, h]

theorem pow7 (i : Nat) : 2 ^ (7 * (i + 1)) = 128 * 2 ^ (7 * i) := by
  rw [show 7 * (i + 1) = 7 * i + 7 by omega, Nat.pow_add]; omega
theorem pow_le {i : Nat} (h : i ≤ 8) : 2 ^ (7 * i) ≤ 2 ^ 56 := Nat.pow_le_pow_right (by omega) (by omega)

/-- Nothing is added beyond the 64 bits. -/
theorem fits {i n d : Nat} (hi : i < 10) (hn : n < 2 ^ (7 * i)) (hd : d < 256) (hb : bad i d = false) (h128 : d < 128) : (n + (d % 128 * 2 ^ (7 * i)) % 18446744073709551616) % 18446744073709551616 = n + d * 2 ^ (7 * i) := by
  rw [Nat.mod_eq_of_lt h128]
  by_cases h9 : i = 9
  · subst h9
    have : d ≤ 1 := by
      simp [bad] at hb; omega
    obtain rfl | rfl : d = 0 ∨ d = 1 := by omega
    · simp at hn ⊢; omega
    · simp at hn ⊢; omega
  · have hp := pow_le (show i ≤ 8 by omega)
    have hm : d * 2 ^ (7 * i) ≤ 127 * 2 ^ (7 * i) := Nat.mul_le_mul_right _ (by omega)
    generalize d * 2 ^ (7 * i) = q at *
    generalize 2 ^ (7 * i) = P at *
    simp at hp
    rw [Nat.mod_eq_of_lt (show q < 18446744073709551616 by omega), Nat.mod_eq_of_lt (by omega)]
theorem fits_more {i n d : Nat} (hi : i < 9) (hn : n < 2 ^ (7 * i)) (hd : d < 256) (h128 : 128 ≤ d) : (n + (d % 128 * 2 ^ (7 * i)) % 18446744073709551616) % 18446744073709551616 = n + (d - 128) * 2 ^ (7 * i) ∧ n + (d - 128) * 2 ^ (7 * i) < 2 ^ (7 * (i + 1)) := by
  rw [show d % 128 = d - 128 by omega, pow7]
  have hp := pow_le (show i ≤ 8 by omega)
  have hm : (d - 128) * 2 ^ (7 * i) ≤ 127 * 2 ^ (7 * i) := Nat.mul_le_mul_right _ (by omega)
  generalize (d - 128) * 2 ^ (7 * i) = q at *
  generalize 2 ^ (7 * i) = P at *
  simp at hp
  rw [Nat.mod_eq_of_lt (show q < 18446744073709551616 by omega), Nat.mod_eq_of_lt (by omega)]
  exact ⟨rfl, by omega⟩

theorem drop_take_cons {xs : List UInt8} {k k' : Nat} (h : k < xs.length) (hk : k + 1 ≤ k') : (xs.drop k).take (k' - k) = xs[k] :: (xs.drop (k + 1)).take (k' - (k + 1)) := by
  rw [List.drop_eq_getElem_cons h, show k' - k = (k' - (k + 1)) + 1 by omega, List.take_succ_cons]

/-- WHAT IS READ IS WRITTEN SO. -/
theorem dg_enc (f : Nat) : ∀ (xs : List UInt8) (k i n N k' : Nat), i + f = 10 → n < 2 ^ (7 * i) → 0 < f → dg f xs k 0 i n = (N, k', 0) →
    ∃ m, N = n + m * 2 ^ (7 * i) ∧ (0 < i → 0 < m) ∧ k < k' ∧ k' ≤ xs.length ∧ encF f m = (xs.drop k).take (k' - k) := by
  induction f with
  | zero => intro _ _ _ _ _ _ _ _ h; omega
  | succ f ih =>
    intro xs k i n N k' hif hn _ h
    rw [dg] at h
    by_cases hl : k < xs.length
    · rw [rb_ok hl] at h
      dsimp only at h
      have hd : xs[k].toNat < 256 := xs[k].toNat_lt
      by_cases hb : bad i xs[k].toNat = true
      · simp [hb] at h
      · have hb' : bad i xs[k].toNat = false := by simpa using hb
        rw [hb'] at h
        by_cases h128 : xs[k].toNat < 128
        · rw [if_pos (by simp [h128]), fits (by omega) hn hd hb' h128] at h
          simp at h
          obtain ⟨h1, h2⟩ := h
          refine ⟨xs[k].toNat, h1.symm, ?_, by omega, by omega, ?_⟩
          · intro hi
            rcases Nat.eq_zero_or_pos xs[k].toNat with h0 | h0
            · simp [bad, hi, h0] at hb'
            · exact h0
          · rw [encF_succ, if_pos h128, ← h2, drop_take_cons hl (by omega)]
            simp
        · rw [if_neg (by simp; omega)] at h
          have h9 : i < 9 := by
            rcases Nat.lt_or_ge i 9 with h9 | h9
            · exact h9
            · have : i = 9 := by omega
              subst this
              simp [bad] at hb'
              omega
          obtain ⟨e1, e2⟩ := fits_more h9 hn hd (by omega)
          rw [e1] at h
          obtain ⟨m, r1, r2, r3, r4, r5⟩ := ih xs (k + 1) (i + 1) _ N k' (by omega) e2 (by omega) (by simpa using h)
          have hm := r2 (by omega)
          refine ⟨xs[k].toNat - 128 + 128 * m, ?_, by omega, by omega, r4, ?_⟩
          · rw [r1, pow7]
            rw [Nat.add_mul, Nat.mul_comm 128 m, Nat.mul_assoc]
            omega
          · rw [encF_succ, if_neg (by omega), drop_take_cons hl (by omega), ← r5, show (xs[k].toNat - 128 + 128 * m) / 128 = m by omega,
              show (xs[k].toNat - 128 + 128 * m) % 128 + 128 = xs[k].toNat by omega]
            simp
    · rw [rb_short (by omega)] at h
      simp [bad] at h
theorem rn_enc {xs : List UInt8} {n k' : Nat} (h : rn xs 0 0 18446744073709551615 = (n, k', 0)) : enc n = xs.take k' ∧ k' ≤ xs.length := by
  have hlt := dg_lt 10 xs 0 0 0 0 (Nat.zero_lt_succ _)
  have hn : ¬ 18446744073709551615 < (dg 10 xs 0 0 0 0).1 := by omega
  unfold rn at h
  dsimp only at h
  rw [if_neg hn] at h
  simp only [Prod.mk.injEq] at h
  obtain ⟨h1, h2, h3⟩ := h
  rw [if_pos h3] at h1
  obtain ⟨m, r1, r2, r3, r4, r5⟩ := dg_enc 10 xs 0 0 0 n k' rfl (by decide) (by decide) (Prod.ext h1 (Prod.ext h2 h3))
  simp at r1
  subst r1
  exact ⟨by simpa [enc] using r5, r4⟩
theorem rn_zero {xs : List UInt8} {k : Nat} {e : Int} {most n k' : Nat} {e' : Int} (h : rn xs k e most = (n, k', e')) (he : e' ≠ 0) : n = 0 := by
  unfold rn at h
  dsimp only at h
  simp only [Prod.mk.injEq] at h
  obtain ⟨h1, h2, h3⟩ := h
  rw [h3, if_neg he] at h1
  exact h1.symm
end Go.Proofs.Ytcjnfmlpjolfpaa
