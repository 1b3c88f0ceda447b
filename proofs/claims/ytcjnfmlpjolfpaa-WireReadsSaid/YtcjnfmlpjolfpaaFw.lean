/- What is written as a number is read as that number: forward. -/
import Derived.Test.YtcjnfmlpjolfpaaDec
import Derived.Test.YtcjnfmlpjolfpaaRt
namespace Go.Proofs.Ytcjnfmlpjolfpaa
open Go Go.RowKit
set_option linter.unusedVariables false

theorem encF_len (f m : Nat) : (encF (f + 1) m).length = if m < 128 then 1 else (encF f (m / 128)).length + 1 := by
  rw [encF_succ]; split <;> simp
theorem dg_fwd : ∀ (f m i n : Nat) (xs : List UInt8) (k : Nat) (rest : List UInt8), i + f = 10 → 0 < f → n < 2 ^ (7 * i) → m * 2 ^ (7 * i) + n < 18446744073709551616 → (0 < i → 0 < m) → xs.drop k = encF f m ++ rest →
    dg f xs k 0 i n = (n + m * 2 ^ (7 * i), k + (encF f m).length, 0)
  | 0, _, _, _, _, _, _, _, h0, _, _, _, _ => absurd h0 (by omega)
  | f + 1, m, i, n, xs, k, rest, hf, _, hn, hm, hz, hd => by
    have hne : encF (f + 1) m ++ rest ≠ [] := by rw [encF_succ]; split <;> simp
    have hk : k < xs.length := by
      rcases Nat.lt_or_ge k xs.length with h | h
      · exact h
      · rw [List.drop_eq_nil_of_le h] at hd; exact absurd hd.symm hne
    rw [List.drop_eq_getElem_cons hk, encF_succ] at hd
    have h9 : i = 9 → m ≤ 1 := by
      intro h
      subst h
      rw [show 2 ^ (7 * 9) = 9223372036854775808 from rfl] at hm
      omega
    by_cases h128 : m < 128
    · rw [if_pos h128, List.cons_append, List.nil_append] at hd
      injection hd with hx _
      have hxn : xs[k].toNat = m := by rw [hx, UInt8.toNat_ofNat']; omega
      have hb : bad i m = false := by
        unfold bad
        by_cases hi : 0 < i
        · have := hz hi
          by_cases h : i = 9
          · have := h9 h
            simp [h]; omega
          · simp [h]; omega
        · simp [show i = 0 by omega]
      have ft := fits (i := i) (n := n) (d := m) (by omega) hn (by omega) hb h128
      simp only [dg, rb_ok hk, hxn, hb, Bool.false_and, Bool.false_eq_true, if_false]
      rw [ft, encF_len, if_pos h128]
      simp [h128]
    · rw [if_neg h128, List.cons_append] at hd
      injection hd with hx hd'
      have hxn : xs[k].toNat = m % 128 + 128 := by rw [hx, UInt8.toNat_ofNat']; omega
      have hi9 : i < 9 := by
        rcases Nat.lt_or_ge i 9 with h | h
        · exact h
        · have := h9 (by omega); omega
      have hb : bad i (m % 128 + 128) = false := by
        unfold bad
        simp; omega
      have ft := fits_more (i := i) (n := n) (d := m % 128 + 128) hi9 hn (by omega) (by omega)
      rw [Nat.add_sub_cancel] at ft
      obtain ⟨f1, f2⟩ := ft
      have hp := pow7 i
      have hm128 : m = m / 128 * 128 + m % 128 := by omega
      have hsum : m / 128 * 2 ^ (7 * (i + 1)) + (n + m % 128 * 2 ^ (7 * i)) = n + m * 2 ^ (7 * i) := by
        rw [hp]
        generalize 2 ^ (7 * i) = P
        conv => rhs; rw [hm128, Nat.add_mul, Nat.mul_assoc]
        omega
      have ih := dg_fwd f (m / 128) (i + 1) (n + m % 128 * 2 ^ (7 * i)) xs (k + 1) rest (by omega) (by omega) f2 (by rw [hsum]; omega) (fun _ => by omega) hd'
      simp only [dg, rb_ok hk, hxn, hb, Bool.false_and, Bool.false_eq_true, if_false]
      rw [f1, encF_len, if_neg h128]
      have h2 : ¬ (m % 128 + 128 < 128) := by omega
      simp only [h2, decide_false, Bool.false_or, bne_self_eq_false, Bool.false_eq_true, if_false]
      rw [ih]
      refine Prod.ext ?_ (Prod.ext ?_ rfl)
      · show n + m % 128 * 2 ^ (7 * i) + m / 128 * 2 ^ (7 * (i + 1)) = n + m * 2 ^ (7 * i)
        omega
      · show k + 1 + (encF f (m / 128)).length = k + ((encF f (m / 128)).length + 1)
        omega
theorem rn_fwd {xs rest : List UInt8} {k m most : Nat} (hd : xs.drop k = enc m ++ rest) (hm : m < 18446744073709551616) (hmost : m ≤ most) : rn xs k 0 most = (m, k + (enc m).length, 0) := by
  have h := dg_fwd 10 m 0 0 xs k rest rfl (by omega) (by simp) (by simpa using hm) (fun h => by omega) hd
  unfold rn
  rw [h]
  simp [show ¬ most < m by omega, enc]
theorem rt_fwd {xs s rest : List UInt8} {k : Nat} (hd : xs.drop k = enc s.length ++ (s ++ rest)) (hs : s.length ≤ 4096) : rt xs k 0 = (s, k + (enc s.length).length + s.length, 0) := by
  have h := rn_fwd (most := 4096) hd (by omega) hs
  unfold rt
  rw [h]
  have hl : k + (enc s.length).length + s.length ≤ xs.length := by
    have e := congrArg List.length hd
    rw [List.length_drop, List.length_append, List.length_append] at e
    have : 0 < (enc s.length).length := by unfold enc; rw [encF_len]; split <;> omega
    omega
  have hd2 : xs.drop (k + (enc s.length).length) = s ++ rest := by
    rw [← List.drop_drop, hd, List.drop_left' rfl]
  unfold nx
  simp [hl, hd2]
end Go.Proofs.Ytcjnfmlpjolfpaa
