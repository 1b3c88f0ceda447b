/- How long one waits: the theory; Wait. -/
import Derived.Test.YtogkjiiemflglaaG1
namespace Go.Proofs.Ytogkjiiemflglaa
open Go Go.RowKit
set_option linter.unusedVariables false
set_option linter.unusedSimpArgs false
def wtN (f k m : Int) : Nat → Int
  | 0 => f
  | n + 1 => if (m ≠ 0 ∧ m ≤ wtN f k m n) ∨ 658812288346769700 ≤ wtN f k m n then wtN f k m n else wtN f k m n * k
theorem wtN_same {f k m : Int} {n : Nat} (h : (m ≠ 0 ∧ m ≤ wtN f k m n) ∨ 658812288346769700 ≤ wtN f k m n) : wtN f k m (n + 1) = wtN f k m n := by rw [wtN, if_pos h]
theorem wtN_more {f k m : Int} {n : Nat} (h : ¬((m ≠ 0 ∧ m ≤ wtN f k m n) ∨ 658812288346769700 ≤ wtN f k m n)) : wtN f k m (n + 1) = wtN f k m n * k := by rw [wtN, if_neg h]
theorem wtN_bound {f k m : Int} (hf : 0 ≤ f) (hf' : f ≤ 63) (hk : 1 ≤ k) (hk' : k ≤ 7) (n : Nat) : 0 ≤ wtN f k m n ∧ wtN f k m n < 4611686018427387900 := by
  induction n with
  | zero => simp only [wtN]; omega
  | succ n ih =>
    by_cases h : (m ≠ 0 ∧ m ≤ wtN f k m n) ∨ 658812288346769700 ≤ wtN f k m n
    · rw [wtN_same h]; exact ih
    · rw [wtN_more h]
      have h2 : wtN f k m n < 658812288346769700 := by omega
      refine ⟨Int.mul_nonneg ih.1 (by omega), ?_⟩
      have h3 : wtN f k m n * k ≤ wtN f k m n * 7 := Int.mul_le_mul_of_nonneg_left hk' ih.1
      omega
theorem wtN_mono {f k m : Int} (hf : 0 ≤ f) (hf' : f ≤ 63) (hk : 1 ≤ k) (hk' : k ≤ 7) (n : Nat) : wtN f k m n ≤ wtN f k m (n + 1) := by
  by_cases h : (m ≠ 0 ∧ m ≤ wtN f k m n) ∨ 658812288346769700 ≤ wtN f k m n
  · rw [wtN_same h]; exact Int.le_refl _
  · rw [wtN_more h]
    have h3 : wtN f k m n * 1 ≤ wtN f k m n * k := Int.mul_le_mul_of_nonneg_left hk (wtN_bound (m := m) hf hf' hk hk' n).1
    omega
theorem wtN_stop {f k m : Int} {n : Nat} (h : (m ≠ 0 ∧ m ≤ wtN f k m n) ∨ 658812288346769700 ≤ wtN f k m n) (j : Nat) (hj : n ≤ j) : wtN f k m j = wtN f k m n := by
  induction j with
  | zero => rw [show n = 0 by omega]
  | succ j ih =>
    by_cases e : n = j + 1
    · rw [e]
    · have ih := ih (by omega)
      rw [wtN_same (by rw [ih]; exact h), ih]
theorem wtN_zero {k m : Int} (n : Nat) : wtN 0 k m n = 0 := by
  induction n with
  | zero => rfl
  | succ n ih =>
    by_cases h : (m ≠ 0 ∧ m ≤ wtN 0 k m n) ∨ 658812288346769700 ≤ wtN 0 k m n
    · rw [wtN_same h, ih]
    · rw [wtN_more h, ih]; simp
theorem wtN_one {f m : Int} (n : Nat) : wtN f 1 m n = f := by
  induction n with
  | zero => rfl
  | succ n ih =>
    by_cases h : (m ≠ 0 ∧ m ≤ wtN f 1 m n) ∨ 658812288346769700 ≤ wtN f 1 m n
    · rw [wtN_same h, ih]
    · rw [wtN_more h, ih]; simp
theorem wtN_two {f k m : Int} (hf : 1 ≤ f) (hk : 2 ≤ k) (n : Nat) : ((m ≠ 0 ∧ m ≤ wtN f k m n) ∨ 658812288346769700 ≤ wtN f k m n) ∨ (2 : Int) ^ n ≤ wtN f k m n := by
  induction n with
  | zero => right; simp only [wtN]; simpa using hf
  | succ n ih =>
    rcases ih with h | h
    · left; rw [wtN_same h]; exact h
    · by_cases h2 : (m ≠ 0 ∧ m ≤ wtN f k m n) ∨ 658812288346769700 ≤ wtN f k m n
      · left; rw [wtN_same h2]; exact h2
      · right
        rw [wtN_more h2, Int.pow_succ]
        have p : (0 : Int) ≤ 2 ^ n := Int.le_of_lt (Int.pow_pos (by decide))
        exact Int.mul_le_mul h hk (by decide) (Int.le_trans p h)
theorem wtN_stable {f k m : Int} (hf : 0 ≤ f) (hk : 1 ≤ k) (i j : Nat) (hi : 60 ≤ i) (hj : 60 ≤ j) : wtN f k m i = wtN f k m j := by
  by_cases h0 : f = 0
  · rw [h0, wtN_zero, wtN_zero]
  · by_cases h1 : k = 1
    · rw [h1, wtN_one, wtN_one]
    · have h := wtN_two (f := f) (k := k) (m := m) (by omega) (by omega) 60
      have h2 : (m ≠ 0 ∧ m ≤ wtN f k m 60) ∨ 658812288346769700 ≤ wtN f k m 60 := by
        rcases h with h | h
        · exact h
        · right
          have : (2 : Int) ^ 60 = 1152921504606846976 := by decide
          omega
      rw [wtN_stop h2 i hi, wtN_stop h2 j hj]
def wtOk (a n : Int) : Bool := decide (1 ≤ n) && (decide (a = 0) || decide (n < a))
def wtM (m v : Int) : Int := if m ≠ 0 ∧ m < v then m else v
def wtW (f k m n : Int) : Int := wtM m (wtN f k m (min (n - 1) 62).toNat)
def wtV (a f k m n : Int) : Int := if wtOk a n = true then wtW f k m n else 0
theorem wtM_zero (v : Int) : wtM 0 v = v := by simp [wtM]
theorem wtM_min {m v : Int} (h : m ≠ 0) : wtM m v = min v m := by
  unfold wtM
  by_cases h2 : m < v
  · rw [if_pos ⟨h, h2⟩]; omega
  · rw [if_neg (by omega)]; omega
theorem wtW_at {f k m n : Int} {i : Nat} (h : (n - 1).toNat = i ∨ (60 ≤ i ∧ 61 ≤ n)) (hf : 0 ≤ f) (hk : 1 ≤ k) : wtW f k m n = wtM m (wtN f k m i) := by
  unfold wtW
  rcases h with h | h
  · by_cases e : n - 1 ≤ 62
    · rw [show (min (n - 1) 62).toNat = i by omega]
    · rw [wtN_stable hf hk (min (n - 1) 62).toNat i (by omega) (by omega)]
  · rw [wtN_stable hf hk (min (n - 1) 62).toNat i (by omega) (by omega)]
def WtRel (f k m : Int) (N : Nat) (i v : Value) : Prop := ∃ j : Nat, i = .int .i64 (j : Int) ∧ v = .int .i64 (wtN f k m j) ∧ j ≤ N

set_option maxHeartbeats 16000000 in
set_option maxRecDepth 100000 in
theorem wait_loop0 (a f k m l n : Int) (hp : okP a f k m l = true) (hn : -9223372036854775808 ≤ n ∧ n ≤ 9223372036854775807) (c1 : 1 ≤ n) (cm : n - 1 ≤ 62) (c3 : a = 0) (w : World) : Calls Try.prog 13 #[pol a f k m l, .int .i64 n] w fun e w' => e = .returned (.tuple #[.int .i64 (wtW f k m n), .bool true]) ∧ Below w.heap.size w w' := by
  obtain ⟨h1, h2, h3, h4, h5, h6, h7, h8, h9, h10⟩ := (okP_iff a f k m l).mp hp
  obtain ⟨n0, n1⟩ := hn
  have c5 : ¬ n < 1 := by omega
  obtain ⟨N, hN⟩ : ∃ N : Nat, N = (n - 1).toNat := ⟨_, rfl⟩
  obtain ⟨R, hR⟩ : ∃ R, R = wtW f k m n := ⟨_, rfl⟩
  rw [← hR]
  have HR := Lib.hid (show R = wtM m (wtN f k m N) by rw [hR]; exact wtW_at (by omega) h3 h5)
  have B1 := Lib.hid (below_new w (.cells #[.int .i64 a, .int .i64 f, .int .i64 k, .int .i64 m, .int .i64 l] 23))
  clear hR hp
  have cm2 : ¬ 62 < n - 1 := by omega
  subst c3
  unfold pol
  go_enter Try.func13, Try.ntmps13
  go_wp2_with fail
  go_loop [25, 6] (fun i v => WtRel f k m N i v) (fun i _ => N - (intOf i).toNat)
  case atStart => exact ⟨0, rfl, rfl, Nat.zero_le _⟩
  case round =>
    obtain ⟨j, rfl, rfl, hj⟩ := hrel
    have bd := wtN_bound (m := m) h3 h4 h5 h6 j
    have nx := @wtN_more f k m j
    have sm := @wtN_stop f k m j
    obtain ⟨v, hv⟩ : ∃ v, v = wtN f k m j := ⟨_, rfl⟩
    rw [← hv] at bd nx sm ⊢
    have q0 : (0 : Int) ≤ (j : Int) := by omega
    obtain ⟨b0, b1⟩ := bd
    have HV := Lib.hid hv
    have HNX := Lib.hid nx
    have HSM := Lib.hid sm
    clear hv nx sm
    by_cases hjN : j < N
    · have q1 : (j : Int) < n - 1 := by omega
      by_cases g0 : m = 0
      · subst g0
        by_cases g1 : 658812288346769700 ≤ v
        · obtain rfl : R = v := by rw [HR.out, wtM_zero, HSM.out (Or.inr g1) N hj]
          go_wp2_with fail
          go_ret2
          exact ⟨rfl, B1.out⟩
        · have vk0 : 0 ≤ v * k := Int.mul_nonneg b0 (by omega)
          have vk1 : v * k ≤ v * 7 := Int.mul_le_mul_of_nonneg_left h6 b0
          have vk2 : v * k ≤ 9223372036854775807 := by omega
          go_wp2_with fail
          go_round
          case rel => exact ⟨j + 1, by go_num, by rw [HNX.out (by omega)], by omega⟩
          case measure => simp [intOf]; omega
      · by_cases g1 : m ≤ v
        · by_cases g2 : m = v
          · obtain rfl : R = v := by rw [HR.out, wtM_min g0, HSM.out (Or.inl ⟨g0, g1⟩) N hj]; omega
            subst g2
            go_wp2_with fail
            go_ret2
            exact ⟨rfl, B1.out⟩
          · obtain rfl : R = m := by rw [HR.out, wtM_min g0, HSM.out (Or.inl ⟨g0, g1⟩) N hj]; omega
            have g3 : ¬ v ≤ R := by omega
            go_wp2_with fail
            go_ret2
            exact ⟨rfl, B1.out⟩
        · have g2 : ¬ 658812288346769700 ≤ v := by omega
          have vk0 : 0 ≤ v * k := Int.mul_nonneg b0 (by omega)
          have vk1 : v * k ≤ v * 7 := Int.mul_le_mul_of_nonneg_left h6 b0
          have vk2 : v * k ≤ 9223372036854775807 := by omega
          go_wp2_with fail
          go_round
          case rel => exact ⟨j + 1, by go_num, by rw [HNX.out (by omega)], by omega⟩
          case measure => simp [intOf]; omega
    · obtain rfl : j = N := by omega
      have q1 : ¬ (j : Int) < n - 1 := by omega
      by_cases g0 : m = 0
      · subst g0
        obtain rfl : R = v := by rw [HR.out, wtM_zero, ← HV.out]
        go_wp2_with fail
        go_ret2
        exact ⟨rfl, B1.out⟩
      · by_cases g1 : v ≤ m
        · obtain rfl : R = v := by rw [HR.out, wtM_min g0, ← HV.out]; omega
          by_cases g2 : R = m
          · subst g2
            go_wp2_with fail
            go_ret2
            exact ⟨rfl, B1.out⟩
          · have g3 : ¬ m ≤ R := by omega
            go_wp2_with fail
            go_ret2
            exact ⟨rfl, B1.out⟩
        · obtain rfl : R = m := by rw [HR.out, wtM_min g0, ← HV.out]; omega
          go_wp2_with fail
          go_ret2
          exact ⟨rfl, B1.out⟩
set_option maxHeartbeats 16000000 in
set_option maxRecDepth 100000 in
theorem wait_loop1 (a f k m l n : Int) (hp : okP a f k m l = true) (hn : -9223372036854775808 ≤ n ∧ n ≤ 9223372036854775807) (c1 : 1 ≤ n) (cm : n - 1 ≤ 62) (c3 : ¬ a = 0) (c4 : ¬ a ≤ n) (w : World) : Calls Try.prog 13 #[pol a f k m l, .int .i64 n] w fun e w' => e = .returned (.tuple #[.int .i64 (wtW f k m n), .bool true]) ∧ Below w.heap.size w w' := by
  obtain ⟨h1, h2, h3, h4, h5, h6, h7, h8, h9, h10⟩ := (okP_iff a f k m l).mp hp
  obtain ⟨n0, n1⟩ := hn
  have c5 : ¬ n < 1 := by omega
  obtain ⟨N, hN⟩ : ∃ N : Nat, N = (n - 1).toNat := ⟨_, rfl⟩
  obtain ⟨R, hR⟩ : ∃ R, R = wtW f k m n := ⟨_, rfl⟩
  rw [← hR]
  have HR := Lib.hid (show R = wtM m (wtN f k m N) by rw [hR]; exact wtW_at (by omega) h3 h5)
  have B1 := Lib.hid (below_new w (.cells #[.int .i64 a, .int .i64 f, .int .i64 k, .int .i64 m, .int .i64 l] 23))
  clear hR hp
  have cm2 : ¬ 62 < n - 1 := by omega
  unfold pol
  go_enter Try.func13, Try.ntmps13
  go_wp2_with fail
  go_loop [25, 6] (fun i v => WtRel f k m N i v) (fun i _ => N - (intOf i).toNat)
  case atStart => exact ⟨0, rfl, rfl, Nat.zero_le _⟩
  case round =>
    obtain ⟨j, rfl, rfl, hj⟩ := hrel
    have bd := wtN_bound (m := m) h3 h4 h5 h6 j
    have nx := @wtN_more f k m j
    have sm := @wtN_stop f k m j
    obtain ⟨v, hv⟩ : ∃ v, v = wtN f k m j := ⟨_, rfl⟩
    rw [← hv] at bd nx sm ⊢
    have q0 : (0 : Int) ≤ (j : Int) := by omega
    obtain ⟨b0, b1⟩ := bd
    have HV := Lib.hid hv
    have HNX := Lib.hid nx
    have HSM := Lib.hid sm
    clear hv nx sm
    by_cases hjN : j < N
    · have q1 : (j : Int) < n - 1 := by omega
      by_cases g0 : m = 0
      · subst g0
        by_cases g1 : 658812288346769700 ≤ v
        · obtain rfl : R = v := by rw [HR.out, wtM_zero, HSM.out (Or.inr g1) N hj]
          go_wp2_with fail
          go_ret2
          exact ⟨rfl, B1.out⟩
        · have vk0 : 0 ≤ v * k := Int.mul_nonneg b0 (by omega)
          have vk1 : v * k ≤ v * 7 := Int.mul_le_mul_of_nonneg_left h6 b0
          have vk2 : v * k ≤ 9223372036854775807 := by omega
          go_wp2_with fail
          go_round
          case rel => exact ⟨j + 1, by go_num, by rw [HNX.out (by omega)], by omega⟩
          case measure => simp [intOf]; omega
      · by_cases g1 : m ≤ v
        · by_cases g2 : m = v
          · obtain rfl : R = v := by rw [HR.out, wtM_min g0, HSM.out (Or.inl ⟨g0, g1⟩) N hj]; omega
            subst g2
            go_wp2_with fail
            go_ret2
            exact ⟨rfl, B1.out⟩
          · obtain rfl : R = m := by rw [HR.out, wtM_min g0, HSM.out (Or.inl ⟨g0, g1⟩) N hj]; omega
            have g3 : ¬ v ≤ R := by omega
            go_wp2_with fail
            go_ret2
            exact ⟨rfl, B1.out⟩
        · have g2 : ¬ 658812288346769700 ≤ v := by omega
          have vk0 : 0 ≤ v * k := Int.mul_nonneg b0 (by omega)
          have vk1 : v * k ≤ v * 7 := Int.mul_le_mul_of_nonneg_left h6 b0
          have vk2 : v * k ≤ 9223372036854775807 := by omega
          go_wp2_with fail
          go_round
          case rel => exact ⟨j + 1, by go_num, by rw [HNX.out (by omega)], by omega⟩
          case measure => simp [intOf]; omega
    · obtain rfl : j = N := by omega
      have q1 : ¬ (j : Int) < n - 1 := by omega
      by_cases g0 : m = 0
      · subst g0
        obtain rfl : R = v := by rw [HR.out, wtM_zero, ← HV.out]
        go_wp2_with fail
        go_ret2
        exact ⟨rfl, B1.out⟩
      · by_cases g1 : v ≤ m
        · obtain rfl : R = v := by rw [HR.out, wtM_min g0, ← HV.out]; omega
          by_cases g2 : R = m
          · subst g2
            go_wp2_with fail
            go_ret2
            exact ⟨rfl, B1.out⟩
          · have g3 : ¬ m ≤ R := by omega
            go_wp2_with fail
            go_ret2
            exact ⟨rfl, B1.out⟩
        · obtain rfl : R = m := by rw [HR.out, wtM_min g0, ← HV.out]; omega
          go_wp2_with fail
          go_ret2
          exact ⟨rfl, B1.out⟩
set_option maxHeartbeats 16000000 in
set_option maxRecDepth 100000 in
theorem wait_loop2 (a f k m l n : Int) (hp : okP a f k m l = true) (hn : -9223372036854775808 ≤ n ∧ n ≤ 9223372036854775807) (c1 : 1 ≤ n) (cm : ¬ n - 1 ≤ 62) (c3 : a = 0) (w : World) : Calls Try.prog 13 #[pol a f k m l, .int .i64 n] w fun e w' => e = .returned (.tuple #[.int .i64 (wtW f k m n), .bool true]) ∧ Below w.heap.size w w' := by
  obtain ⟨h1, h2, h3, h4, h5, h6, h7, h8, h9, h10⟩ := (okP_iff a f k m l).mp hp
  obtain ⟨n0, n1⟩ := hn
  have c5 : ¬ n < 1 := by omega
  obtain ⟨N, hN⟩ : ∃ N : Nat, N = (62 : Int).toNat := ⟨_, rfl⟩
  obtain ⟨R, hR⟩ : ∃ R, R = wtW f k m n := ⟨_, rfl⟩
  rw [← hR]
  have HR := Lib.hid (show R = wtM m (wtN f k m N) by rw [hR]; exact wtW_at (by omega) h3 h5)
  have B1 := Lib.hid (below_new w (.cells #[.int .i64 a, .int .i64 f, .int .i64 k, .int .i64 m, .int .i64 l] 23))
  clear hR hp
  subst c3
  unfold pol
  go_enter Try.func13, Try.ntmps13
  go_wp2_with fail
  go_loop [25, 6] (fun i v => WtRel f k m N i v) (fun i _ => N - (intOf i).toNat)
  case atStart => exact ⟨0, rfl, rfl, Nat.zero_le _⟩
  case round =>
    obtain ⟨j, rfl, rfl, hj⟩ := hrel
    have bd := wtN_bound (m := m) h3 h4 h5 h6 j
    have nx := @wtN_more f k m j
    have sm := @wtN_stop f k m j
    obtain ⟨v, hv⟩ : ∃ v, v = wtN f k m j := ⟨_, rfl⟩
    rw [← hv] at bd nx sm ⊢
    have q0 : (0 : Int) ≤ (j : Int) := by omega
    obtain ⟨b0, b1⟩ := bd
    have HV := Lib.hid hv
    have HNX := Lib.hid nx
    have HSM := Lib.hid sm
    clear hv nx sm
    by_cases hjN : j < N
    · have q1 : (j : Int) < 62 := by omega
      by_cases g0 : m = 0
      · subst g0
        by_cases g1 : 658812288346769700 ≤ v
        · obtain rfl : R = v := by rw [HR.out, wtM_zero, HSM.out (Or.inr g1) N hj]
          go_wp2_with fail
          go_ret2
          exact ⟨rfl, B1.out⟩
        · have vk0 : 0 ≤ v * k := Int.mul_nonneg b0 (by omega)
          have vk1 : v * k ≤ v * 7 := Int.mul_le_mul_of_nonneg_left h6 b0
          have vk2 : v * k ≤ 9223372036854775807 := by omega
          go_wp2_with fail
          go_round
          case rel => exact ⟨j + 1, by go_num, by rw [HNX.out (by omega)], by omega⟩
          case measure => simp [intOf]; omega
      · by_cases g1 : m ≤ v
        · by_cases g2 : m = v
          · obtain rfl : R = v := by rw [HR.out, wtM_min g0, HSM.out (Or.inl ⟨g0, g1⟩) N hj]; omega
            subst g2
            go_wp2_with fail
            go_ret2
            exact ⟨rfl, B1.out⟩
          · obtain rfl : R = m := by rw [HR.out, wtM_min g0, HSM.out (Or.inl ⟨g0, g1⟩) N hj]; omega
            have g3 : ¬ v ≤ R := by omega
            go_wp2_with fail
            go_ret2
            exact ⟨rfl, B1.out⟩
        · have g2 : ¬ 658812288346769700 ≤ v := by omega
          have vk0 : 0 ≤ v * k := Int.mul_nonneg b0 (by omega)
          have vk1 : v * k ≤ v * 7 := Int.mul_le_mul_of_nonneg_left h6 b0
          have vk2 : v * k ≤ 9223372036854775807 := by omega
          go_wp2_with fail
          go_round
          case rel => exact ⟨j + 1, by go_num, by rw [HNX.out (by omega)], by omega⟩
          case measure => simp [intOf]; omega
    · obtain rfl : j = N := by omega
      have q1 : ¬ (j : Int) < 62 := by omega
      by_cases g0 : m = 0
      · subst g0
        obtain rfl : R = v := by rw [HR.out, wtM_zero, ← HV.out]
        go_wp2_with fail
        go_ret2
        exact ⟨rfl, B1.out⟩
      · by_cases g1 : v ≤ m
        · obtain rfl : R = v := by rw [HR.out, wtM_min g0, ← HV.out]; omega
          by_cases g2 : R = m
          · subst g2
            go_wp2_with fail
            go_ret2
            exact ⟨rfl, B1.out⟩
          · have g3 : ¬ m ≤ R := by omega
            go_wp2_with fail
            go_ret2
            exact ⟨rfl, B1.out⟩
        · obtain rfl : R = m := by rw [HR.out, wtM_min g0, ← HV.out]; omega
          go_wp2_with fail
          go_ret2
          exact ⟨rfl, B1.out⟩
set_option maxHeartbeats 16000000 in
set_option maxRecDepth 100000 in
theorem wait_any (a f k m l n : Int) (hp : okP a f k m l = true) (hn : -9223372036854775808 ≤ n ∧ n ≤ 9223372036854775807) (w : World) : Calls Try.prog 13 #[pol a f k m l, .int .i64 n] w fun e w' => e = .returned (.tuple #[.int .i64 (wtV a f k m n), .bool (wtOk a n)]) ∧ Below w.heap.size w w' := by
  obtain ⟨n0, n1⟩ := hn
  by_cases c1 : 1 ≤ n
  rotate_left
  · have e : wtOk a n = false := by simp [wtOk, c1]
    rw [show wtV a f k m n = 0 by simp [wtV, e], e]
    have c2 : n < 1 := by omega
    unfold pol
    go_enter Try.func13, Try.ntmps13
    go_wp2
    go_ret2
    exact ⟨rfl, below_new _ _⟩
  by_cases c2 : a ≠ 0 ∧ a ≤ n
  · have e : wtOk a n = false := by simp [wtOk, c1, c2.1]; exact c2.2
    rw [show wtV a f k m n = 0 by simp [wtV, e], e]
    obtain ⟨c3, c4⟩ := c2
    have c5 : ¬ n < 1 := by omega
    unfold pol
    go_enter Try.func13, Try.ntmps13
    go_wp2
    go_ret2
    exact ⟨rfl, below_new _ _⟩
  have e : wtOk a n = true := by
    simp only [wtOk, Bool.and_eq_true, Bool.or_eq_true, decide_eq_true_eq]
    omega
  rw [show wtV a f k m n = wtW f k m n by simp [wtV, e], e]
  by_cases cm : n - 1 ≤ 62
  · by_cases c3 : a = 0
    · exact wait_loop0 a f k m l n hp ⟨n0, n1⟩ c1 cm c3 w
    · exact wait_loop1 a f k m l n hp ⟨n0, n1⟩ c1 cm c3 (by omega) w
  · by_cases c3 : a = 0
    · exact wait_loop2 a f k m l n hp ⟨n0, n1⟩ c1 cm c3 w
    · have h := (okP_iff a f k m l).mp hp
      exact absurd c2 (by omega)
end Go.Proofs.Ytogkjiiemflglaa
