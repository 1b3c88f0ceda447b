/- CronParts: theory. -/
import Derived.Test.YtdifhgfgppddpaaDoorCm
import Derived.Test.YtdifhgfgppddpaaDoorCt
namespace Go.Proofs.YtdifhgfgppddpaaDoor
open Go Go.RowKit
set_option linter.unusedVariables false
set_option linter.unusedSimpArgs false
theorem splitL_ne (c : UInt8) (l : List UInt8) : splitL c l ≠ [] := by
  intro h
  have := splitL_len c l
  rw [h] at this
  simp at this
theorem splitL_append (c : UInt8) (r : List UInt8) : ∀ a, splitL c (a ++ c :: r) = splitL c a ++ splitL c r
  | [] => by simp [splitL]
  | b :: a => by
    have ih := splitL_append c r a
    rw [List.cons_append, splitL, splitL, ih]
    by_cases h : b = c
    · rw [if_pos h, if_pos h]; rfl
    · rw [if_neg h, if_neg h]
      cases hq : splitL c a with
      | nil => exact absurd hq (splitL_ne c a)
      | cons x xs => rfl
theorem splitL_none {c : UInt8} {l : List UInt8} (h : l.count c = 0) : splitL c l = [l] := by
  rw [splitL_cut]
  have := count_cut c l
  rw [h] at this
  by_cases h2 : (cutL c l).2.2 = true
  · rw [if_pos h2] at this; omega
  · rw [if_neg h2]
def tailL : List UInt8 := [32, 42, 32, 42, 32, 42, 32, 42]
theorem splitL_tail (a : List UInt8) : splitL 32 (a ++ tailL) = splitL 32 a ++ [[42], [42], [42], [42]] := by
  have h := splitL_append 32 [42, 32, 42, 32, 42, 32, 42] a
  have h2 : splitL 32 [42, 32, 42, 32, 42, 32, 42] = [[42], [42], [42], [42]] := by decide
  rw [h2] at h
  exact h
def starT : List (List Nat × Bool) := [(List.range 24, true), ((List.range 31).map (· + 1), true), ((List.range 12).map (· + 1), true), (List.range 7, true)]
theorem starT_parse : pfs [[42], [42], [42], [42]] [(0, 23), (1, 31), (1, 12), (0, 6)] = (0, starT) := by rw [pfsN_eq _ _ (by decide)]; decide +kernel
/-- The minute's field alone. -/
theorem parse_tail (a : List UInt8) (ha : a.length ≤ 100) : parseM (a ++ tailL) = if a.count 32 ≠ 0 then (40, []) else if (fieldR a 0 59).1 ≠ 0 then ((fieldR a 0 59).1, []) else (0, ((fieldR a 0 59).2, decide (a = [42])) :: starT) := by
  unfold parseM
  rw [if_neg (by simp [tailL]; omega), splitL_tail]
  have hl := splitL_len 32 a
  by_cases h : a.count 32 = 0
  · rw [if_neg (not_not_intro h), splitL_none h]
    rw [if_neg (by simp)]
    show pfs (a :: [[42], [42], [42], [42]]) ((0, 59) :: [(0, 23), (1, 31), (1, 12), (0, 6)]) = _
    rw [pfs, starT_parse]
    dsimp only
    by_cases h2 : (fieldR a 0 59).1 = 0
    · rw [if_neg (not_not_intro h2), if_neg (not_not_intro h2), if_neg (not_not_intro rfl)]
    · rw [if_pos h2, if_pos h2]
  · rw [if_pos h, if_pos (by rw [List.length_append, hl]; simp; exact h)]
theorem pfR_append (lo hi : Nat) (Q : List (List UInt8)) (hQ : (pfR Q lo hi).1 = 0) : ∀ P, (pfR P lo hi).1 = 0 → pfR (P ++ Q) lo hi = (0, (pfR P lo hi).2 ++ (pfR Q lo hi).2)
  | [], _ => by
    rw [List.nil_append]
    have : pfR [] lo hi = (0, []) := rfl
    rw [this]
    rw [List.nil_append]
    rw [← hQ]
  | p :: P, h => by
    rw [List.cons_append, pfR]
    rw [pfR] at h ⊢
    by_cases h1 : (ppR p lo hi).1 = 0
    · rw [if_neg (not_not_intro h1)] at h ⊢
      by_cases h2 : (pfR P lo hi).1 = 0
      · have ih := pfR_append lo hi Q hQ P h2
        rw [if_neg (not_not_intro h1), if_neg (not_not_intro h2), ih, if_neg (not_not_intro rfl)]
        simp
      · rw [if_pos h2] at h; exact absurd h h2
    · rw [if_pos h1] at h; exact absurd h h1
/-- A field of two parts has the numbers of both. -/
theorem parse_both {a b : List UInt8} (ha : a.length ≤ 30) (hb : b.length ≤ 30) {Da Db : List (List Nat × Bool)} (h1 : parseM (a ++ tailL) = (0, Da)) (h2 : parseM (b ++ tailL) = (0, Db)) :
    ∃ La Lb sa sb sc, Da = (La, sa) :: starT ∧ Db = (Lb, sb) :: starT ∧ parseM (a ++ 44 :: b ++ tailL) = (0, (La ++ Lb, sc) :: starT) := by
  rw [parse_tail a (by omega)] at h1
  rw [parse_tail b (by omega)] at h2
  by_cases ca : a.count 32 = 0
  · rw [if_neg (not_not_intro ca)] at h1
    by_cases cb : b.count 32 = 0
    · rw [if_neg (not_not_intro cb)] at h2
      by_cases fa : (fieldR a 0 59).1 = 0
      · rw [if_neg (not_not_intro fa)] at h1
        by_cases fb : (fieldR b 0 59).1 = 0
        · rw [if_neg (not_not_intro fb)] at h2
          refine ⟨(fieldR a 0 59).2, (fieldR b 0 59).2, _, _, decide (a ++ 44 :: b = [42]), (congrArg Prod.snd h1).symm, (congrArg Prod.snd h2).symm, ?_⟩
          rw [parse_tail (a ++ 44 :: b) (by simp; omega)]
          have hf : fieldR (a ++ 44 :: b) 0 59 = (0, (fieldR a 0 59).2 ++ (fieldR b 0 59).2) := by
            unfold fieldR
            rw [splitL_append]
            exact pfR_append 0 59 _ fb _ fa
          rw [if_neg (not_not_intro (by rw [List.count_append, List.count_cons_of_ne (by decide), ca, cb])), hf]
          rw [if_neg (not_not_intro rfl)]
        · rw [if_pos fb] at h2; exact absurd (congrArg Prod.fst h2) fb
      · rw [if_pos fa] at h1; exact absurd (congrArg Prod.fst h1) fa
    · rw [if_pos cb] at h2; exact absurd (congrArg Prod.fst h2) (fun e => by simp at e)
  · rw [if_pos ca] at h1; exact absurd (congrArg Prod.fst h1) (fun e => by simp at e)
theorem fits_both (La Lb : List Nat) (sa sb sc : Bool) (x : DateD) : fitsN ((La ++ Lb, sc) :: starT) x = (fitsN ((La, sa) :: starT) x || fitsN ((Lb, sb) :: starT) x) := by
  have h : ∀ L s, fitsN ((L, s) :: starT) x = (fitsDayN ((([] : List Nat), false) :: starT) x && decide (x.h ∈ List.range 24) && decide (x.mi ∈ L)) := fun L s => rfl
  rw [h, h, h]
  have e : decide (x.mi ∈ La ++ Lb) = (decide (x.mi ∈ La) || decide (x.mi ∈ Lb)) := by simp
  rw [e]
  cases fitsDayN ((([] : List Nat), false) :: starT) x <;> cases decide (x.h ∈ List.range 24) <;> rfl
end Go.Proofs.YtdifhgfgppddpaaDoor
