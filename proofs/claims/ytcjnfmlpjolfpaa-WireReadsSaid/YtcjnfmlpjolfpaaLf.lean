/- What is left to the reference, and what the Reader has read. -/
import Derived.Test.YtcjnfmlpjolfpaaNu
import Derived.Test.YtcjnfmlpjolfpaaRt
namespace Go.Proofs.Ytcjnfmlpjolfpaa
open Go Go.RowKit
set_option linter.unusedVariables false
set_option linter.unusedSimpArgs false
/-- What is left of the bytes. -/
def lf (xs : List UInt8) (k : Nat) (err : Int) : List UInt8 := if err = 0 then xs.drop k else []
theorem lf_err {xs : List UInt8} {k : Nat} {err : Int} (h : err ≠ 0) : lf xs k err = [] := by simp [lf, h]
theorem lf_ok (xs : List UInt8) (k : Nat) : lf xs k 0 = xs.drop k := by simp [lf]
theorem dv_snoc (d : Nat) : ∀ D : List Nat, dv (D ++ [d]) = (dv D + d * 128 ^ D.length) % 18446744073709551616
  | [] => by simp [dv]
  | a :: D => by
    have ih := dv_snoc d D
    have e : d * 128 ^ (a :: D).length = d * 128 ^ D.length * 128 := by rw [List.length_cons, Nat.pow_succ, Nat.mul_assoc]
    rw [e]
    simp only [List.cons_append, dv]
    rw [ih]
    generalize d * 128 ^ D.length = P
    generalize dv D = Q
    omega
theorem badR_bad (i d : Nat) : badR i d = bad i d := by
  unfold badR bad
  rw [Bool.or_comm]
/-- The end of a number, as it is told. -/
def nend (xs : List UInt8) (most : Nat) (X : Nat × Nat × Int) : Nat × List UInt8 × Int :=
  let e2 := if most < X.1 then fe X.2.2 2 else X.2.2
  (if e2 = 0 then X.1 else 0, lf xs X.2.1 e2, e2)
theorem nend_err (xs : List UInt8) (most n k : Nat) {e : Int} (h : e ≠ 0) : nend xs most (n, k, e) = (0, [], e) := by
  have hfe : fe e 2 = e := by simp [fe, h]
  unfold nend
  simp only [hfe, ite_self]
  simp [h, lf]
theorem nend_ok (xs : List UInt8) (most n k : Nat) : nend xs most (n, k, 0) = if most < n then (0, [], 2) else (n, xs.drop k, 0) := by
  unfold nend
  by_cases h : most < n
  · simp [h, fe, lf]
  · simp [h, lf]
theorem nr_dg (most : Nat) (xs : List UInt8) : ∀ (f i k : Nat) (D : List Nat), 0 < f → i + f = 10 → D.length = i → nr f (xs.drop k) D most = nend xs most (dg f xs k 0 i (dv D))
  | 0, _, _, _, h, _, _ => absurd h (by omega)
  | f + 1, i, k, D, _, hf, hD => by
    by_cases hk : k < xs.length
    · rw [List.drop_eq_getElem_cons hk]
      have hr : rb xs k 0 = (xs[k], k + 1, 0) := rb_ok hk
      obtain ⟨x, hx⟩ : ∃ x, x = xs[k] := ⟨_, rfl⟩
      rw [← hx] at hr ⊢
      have hp : (2 : Nat) ^ (7 * i) = 128 ^ i := by rw [Nat.pow_mul]
      have hn : (dv D + (x.toNat % 128 * 2 ^ (7 * i)) % 18446744073709551616) % 18446744073709551616 = dv (D ++ [x.toNat % 128]) := by
        rw [dv_snoc, hD, hp]
        generalize x.toNat % 128 * 128 ^ i = P
        generalize dv D = Q
        omega
      simp only [nr, dg, hr, hD, badR_bad]
      rw [hn]
      by_cases hb : bad i x.toNat = true
      · simp only [hb, Bool.true_and, beq_self_eq_true, if_true]
        rw [if_pos (by simp), nend_err _ _ _ _ (by decide)]
      · have hb' : bad i x.toNat = false := by simpa using hb
        simp only [hb', Bool.false_and, Bool.false_eq_true, if_false]
        by_cases h1 : x.toNat < 128
        · have hc : (decide (x.toNat < 128) || (0 : Int) != 0) = true := by simp [h1]
          rw [if_pos h1, if_pos hc, nend_ok]
        · have hc : ¬ (decide (x.toNat < 128) || (0 : Int) != 0) = true := by simp [h1]
          rw [if_neg h1, if_neg hc]
          have hi : i ≠ 9 := by
            intro e
            subst e
            simp [bad] at hb'
            omega
          have ih := nr_dg most xs f (i + 1) (k + 1) (D ++ [x.toNat % 128]) (by omega) (by omega) (by simp [hD])
          exact ih
    · have hr : rb xs k 0 = (0, k, 6) := by simp [rb]; omega
      rw [List.drop_eq_nil_of_le (by omega)]
      simp only [nr, dg, hr]
      simp only [show ((6 : Int) == 0) = false from rfl, Bool.and_false, Bool.false_eq_true, if_false]
      rw [if_pos (by simp), nend_err _ _ _ _ (by decide)]
theorem rn_eq (xs : List UInt8) (k : Nat) (err : Int) (most : Nat) : nrc err 10 (lf xs k err) [] most = ((rn xs k err most).1, lf xs (rn xs k err most).2.1 (rn xs k err most).2.2, (rn xs k err most).2.2) := by
  by_cases h : err = 0
  · subst h
    have := nr_dg most xs 10 0 k [] (by omega) rfl rfl
    unfold nrc
    rw [if_neg (by simp), lf_ok, this]
    rfl
  · have hr : rb xs k err = (0, k, err) := by simp [rb, h]
    have hd : dg 10 xs k err 0 0 = (0, k, err) := by
      simp only [dg, hr]
      simp [bad]
    unfold nrc rn
    rw [if_pos h, hd]
    simp [h, lf]
theorem tk_eq (xs : List UInt8) (k : Nat) (err : Int) (n : Nat) (hk : k ≤ xs.length) : tk (lf xs k err) err n = ((nx xs k err n).1, lf xs (nx xs k err n).2.1 (nx xs k err n).2.2, (nx xs k err n).2.2) := by
  unfold tk nx
  by_cases h : err = 0
  · subst h
    simp only [ne_eq, not_true_eq_false, if_false, lf_ok, List.length_drop]
    by_cases h2 : k + n ≤ xs.length
    · rw [if_neg (by omega), if_pos h2]
      simp [lf]
    · rw [if_pos (by omega), if_neg h2]
      simp [lf]
  · simp [lf, h]
theorem rb_nx (xs : List UInt8) (k : Nat) (err : Int) : (rb xs k err).2 = (nx xs k err 1).2 ∧ (((nx xs k err 1).1 = [] ∧ (rb xs k err).1 = 0) ∨ (nx xs k err 1).1 = [(rb xs k err).1]) := by
  by_cases h : err = 0
  · subst h
    by_cases hk : k < xs.length
    · rw [nx_one_ok hk]
      simp [rb, hk]
    · rw [nx_one_short (by omega)]
      simp [rb, hk]
  · rw [nx_err h]
    simp [rb, h]
end Go.Proofs.Ytcjnfmlpjolfpaa
