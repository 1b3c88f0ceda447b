/- Policies: within, right, Check, Due, Again; a policy is five numbers. -/
import Derived.Test.YtogkjiiemflglaaCz
import Derived.WalkKit
import Derived.WalkLawsBesides
import Derived.WalkSpells
import Derived.Handy
import Derived.Lib.Hide
import Derived.Outline
import Derived.Deep.QuietTactic
import Derived.BigQuiet
import Derived.Deep.RegionWith
import Derived.Deep.DeepCutAuto
namespace Go.Proofs.Ytogkjiiemflglaa
open Go Go.RowKit
set_option linter.unusedVariables false
set_option linter.unusedSimpArgs false
/-- A policy's five numbers, as a value. -/
def pol (a f k m l : Int) : Value := .agg #[.int .i64 a, .int .i64 f, .int .i64 k, .int .i64 m, .int .i64 l]
def okP (a f k m l : Int) : Bool := decide (0 ≤ a) && decide (a ≤ 15) && decide (0 ≤ f) && decide (f ≤ 63) && decide (1 ≤ k) && decide (k ≤ 7) && decide (0 ≤ m) && decide (m ≤ 511) && decide (0 ≤ l) && decide (l ≤ 511)
theorem okP_iff (a f k m l : Int) : okP a f k m l = true ↔ 0 ≤ a ∧ a ≤ 15 ∧ 0 ≤ f ∧ f ≤ 63 ∧ 1 ≤ k ∧ k ≤ 7 ∧ 0 ≤ m ∧ m ≤ 511 ∧ 0 ≤ l ∧ l ≤ 511 := by
  simp only [okP, Bool.and_eq_true, decide_eq_true_eq, and_assoc]
theorem okP_not {a f k m l : Int} (h : ¬(0 ≤ a ∧ a ≤ 15 ∧ 0 ≤ f ∧ f ≤ 63 ∧ 1 ≤ k ∧ k ≤ 7 ∧ 0 ≤ m ∧ m ≤ 511 ∧ 0 ≤ l ∧ l ≤ 511)) : okP a f k m l = false := by
  cases e : okP a f k m l
  · rfl
  · exact absurd ((okP_iff a f k m l).mp e) h
theorem below_new (w : World) (b) : Below w.heap.size w (w.alloc b) := (Below.refl _ _).alloc (Nat.le_refl _) _

theorem within_any (n lo hi : Int) (w : World) : Calls Try.prog 16 #[.int .i64 n, .int .i64 lo, .int .i64 hi] w fun e w' => e = .returned (.bool (decide (lo ≤ n) && decide (n ≤ hi))) ∧ w' = w := by
  by_cases h1 : lo ≤ n
  · by_cases h2 : n ≤ hi
    · rw [show (decide (lo ≤ n) && decide (n ≤ hi)) = true by simp [h1, h2]]
      go_enter Try.func16, Try.ntmps16
      go_wp2
      go_ret
      exact ⟨rfl, rfl⟩
    · rw [show (decide (lo ≤ n) && decide (n ≤ hi)) = false by simp [h1, h2]]
      go_enter Try.func16, Try.ntmps16
      go_wp2
      go_ret
      exact ⟨rfl, rfl⟩
  · rw [show (decide (lo ≤ n) && decide (n ≤ hi)) = false by simp [h1]]
    go_enter Try.func16, Try.ntmps16
    go_wp2
    go_ret
    exact ⟨rfl, rfl⟩

set_option maxHeartbeats 16000000 in
set_option maxRecDepth 100000 in
theorem right_any (a f k m l : Int) (w : World) : Calls Try.prog 10 #[pol a f k m l] w fun e w' => e = .returned (.bool (okP a f k m l)) ∧ Below w.heap.size w w' := by
  by_cases h0 : 0 ≤ a
  rotate_left
  · rw [okP_not (by omega)]
    unfold pol
    go_enter Try.func10, Try.ntmps10
    go_wp2
    go_ret
    exact ⟨rfl, below_new _ _⟩
  by_cases h1 : a ≤ 15
  rotate_left
  · rw [okP_not (by omega)]
    unfold pol
    go_enter Try.func10, Try.ntmps10
    go_wp2
    go_ret
    exact ⟨rfl, below_new _ _⟩
  by_cases h2 : 0 ≤ f
  rotate_left
  · rw [okP_not (by omega)]
    unfold pol
    go_enter Try.func10, Try.ntmps10
    go_wp2
    go_ret
    exact ⟨rfl, below_new _ _⟩
  by_cases h3 : f ≤ 63
  rotate_left
  · rw [okP_not (by omega)]
    unfold pol
    go_enter Try.func10, Try.ntmps10
    go_wp2
    go_ret
    exact ⟨rfl, below_new _ _⟩
  by_cases h4 : 1 ≤ k
  rotate_left
  · rw [okP_not (by omega)]
    unfold pol
    go_enter Try.func10, Try.ntmps10
    go_wp2
    go_ret
    exact ⟨rfl, below_new _ _⟩
  by_cases h5 : k ≤ 7
  rotate_left
  · rw [okP_not (by omega)]
    unfold pol
    go_enter Try.func10, Try.ntmps10
    go_wp2
    go_ret
    exact ⟨rfl, below_new _ _⟩
  by_cases h6 : 0 ≤ m
  rotate_left
  · rw [okP_not (by omega)]
    unfold pol
    go_enter Try.func10, Try.ntmps10
    go_wp2
    go_ret
    exact ⟨rfl, below_new _ _⟩
  by_cases h7 : m ≤ 511
  rotate_left
  · rw [okP_not (by omega)]
    unfold pol
    go_enter Try.func10, Try.ntmps10
    go_wp2
    go_ret
    exact ⟨rfl, below_new _ _⟩
  by_cases h8 : 0 ≤ l
  rotate_left
  · rw [okP_not (by omega)]
    unfold pol
    go_enter Try.func10, Try.ntmps10
    go_wp2
    go_ret
    exact ⟨rfl, below_new _ _⟩
  by_cases h9 : l ≤ 511
  rotate_left
  · rw [okP_not (by omega)]
    unfold pol
    go_enter Try.func10, Try.ntmps10
    go_wp2
    go_ret
    exact ⟨rfl, below_new _ _⟩
  rw [(okP_iff a f k m l).mpr ⟨h0, h1, h2, h3, h4, h5, h6, h7, h8, h9⟩]
  unfold pol
  go_enter Try.func10, Try.ntmps10
  go_wp2
  go_ret
  exact ⟨rfl, below_new _ _⟩

set_option maxHeartbeats 16000000 in
set_option maxRecDepth 100000 in
theorem check_any (a f k m l : Int) (w : World) : Calls Try.prog 11 #[pol a f k m l] w fun e w' => e = .returned (.int .i64 (if okP a f k m l then 0 else 1)) ∧ Below w.heap.size w w' := by
  have W0 := within_any a 0 15
  have W1 := within_any f 0 63
  have W2 := within_any k 1 7
  have W3 := within_any m 0 511
  have W4 := within_any l 0 511
  cases e0 : (decide (0 ≤ a) && decide (a ≤ 15))
  · rw [show okP a f k m l = false by simp only [Bool.and_eq_false_iff, decide_eq_false_iff_not] at e0; exact okP_not (by omega)]
    rw [e0] at W0
    unfold pol
    go_enter Try.func11, Try.ntmps11
    go_wp2_with (first | (with_reducible refine (W0 _).mono ?_; rintro e w2 ⟨rfl, rfl⟩))
    go_ret
    exact ⟨rfl, below_new _ _⟩
  rw [e0] at W0
  cases e1 : (decide (0 ≤ f) && decide (f ≤ 63))
  · rw [show okP a f k m l = false by simp only [Bool.and_eq_false_iff, decide_eq_false_iff_not] at e1; exact okP_not (by omega)]
    rw [e1] at W1
    unfold pol
    go_enter Try.func11, Try.ntmps11
    go_wp2_with (first | (with_reducible refine (W0 _).mono ?_; rintro e w2 ⟨rfl, rfl⟩) | (with_reducible refine (W1 _).mono ?_; rintro e w2 ⟨rfl, rfl⟩))
    go_ret
    exact ⟨rfl, below_new _ _⟩
  rw [e1] at W1
  cases e2 : (decide (1 ≤ k) && decide (k ≤ 7))
  · rw [show okP a f k m l = false by simp only [Bool.and_eq_false_iff, decide_eq_false_iff_not] at e2; exact okP_not (by omega)]
    rw [e2] at W2
    unfold pol
    go_enter Try.func11, Try.ntmps11
    go_wp2_with (first | (with_reducible refine (W0 _).mono ?_; rintro e w2 ⟨rfl, rfl⟩) | (with_reducible refine (W1 _).mono ?_; rintro e w2 ⟨rfl, rfl⟩) | (with_reducible refine (W2 _).mono ?_; rintro e w2 ⟨rfl, rfl⟩))
    go_ret
    exact ⟨rfl, below_new _ _⟩
  rw [e2] at W2
  cases e3 : (decide (0 ≤ m) && decide (m ≤ 511))
  · rw [show okP a f k m l = false by simp only [Bool.and_eq_false_iff, decide_eq_false_iff_not] at e3; exact okP_not (by omega)]
    rw [e3] at W3
    unfold pol
    go_enter Try.func11, Try.ntmps11
    go_wp2_with (first | (with_reducible refine (W0 _).mono ?_; rintro e w2 ⟨rfl, rfl⟩) | (with_reducible refine (W1 _).mono ?_; rintro e w2 ⟨rfl, rfl⟩) | (with_reducible refine (W2 _).mono ?_; rintro e w2 ⟨rfl, rfl⟩) | (with_reducible refine (W3 _).mono ?_; rintro e w2 ⟨rfl, rfl⟩))
    go_ret
    exact ⟨rfl, below_new _ _⟩
  rw [e3] at W3
  cases e4 : (decide (0 ≤ l) && decide (l ≤ 511))
  · rw [show okP a f k m l = false by simp only [Bool.and_eq_false_iff, decide_eq_false_iff_not] at e4; exact okP_not (by omega)]
    rw [e4] at W4
    unfold pol
    go_enter Try.func11, Try.ntmps11
    go_wp2_with (first | (with_reducible refine (W0 _).mono ?_; rintro e w2 ⟨rfl, rfl⟩) | (with_reducible refine (W1 _).mono ?_; rintro e w2 ⟨rfl, rfl⟩) | (with_reducible refine (W2 _).mono ?_; rintro e w2 ⟨rfl, rfl⟩) | (with_reducible refine (W3 _).mono ?_; rintro e w2 ⟨rfl, rfl⟩) | (with_reducible refine (W4 _).mono ?_; rintro e w2 ⟨rfl, rfl⟩))
    go_ret
    exact ⟨rfl, below_new _ _⟩
  rw [e4] at W4
  rw [show okP a f k m l = true by simp only [Bool.and_eq_true, decide_eq_true_eq] at e0 e1 e2 e3 e4; exact (okP_iff a f k m l).mpr (by omega)]
  unfold pol
  go_enter Try.func11, Try.ntmps11
  go_wp2_with (first | (with_reducible refine (W0 _).mono ?_; rintro e w2 ⟨rfl, rfl⟩) | (with_reducible refine (W1 _).mono ?_; rintro e w2 ⟨rfl, rfl⟩) | (with_reducible refine (W2 _).mono ?_; rintro e w2 ⟨rfl, rfl⟩) | (with_reducible refine (W3 _).mono ?_; rintro e w2 ⟨rfl, rfl⟩) | (with_reducible refine (W4 _).mono ?_; rintro e w2 ⟨rfl, rfl⟩))
  go_ret
  exact ⟨rfl, below_new _ _⟩
end Go.Proofs.Ytogkjiiemflglaa
