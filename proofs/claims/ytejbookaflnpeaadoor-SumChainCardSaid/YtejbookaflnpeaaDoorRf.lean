/- The reference's right, less and list. -/
import Derived.Test.YtejbookaflnpeaaDoorDb
namespace Go.Proofs.YtejbookaflnpeaaDoor
open Go Go.RowKit
set_option linter.unusedVariables false

theorem rotr_zero {x : Nat} : rotr 0 x = x := by simp [rotr, Nat.mod_one]
theorem rotr_succ {k x : Nat} (hk : k < 32) : rotr (k + 1) x = rotr k x / 2 + rotr k x % 2 * 2147483648 := by
  unfold rotr
  obtain ⟨P, hP⟩ : ∃ P, P = 2 ^ k := ⟨_, rfl⟩
  obtain ⟨R, hR⟩ : ∃ R, R = 2 ^ (31 - k) := ⟨_, rfl⟩
  have hPR : P * R = 2147483648 := by rw [hP, hR, ← Nat.pow_add, show k + (31 - k) = 31 by omega]
  have h1 : 2 ^ (32 - k) = 2 * R := by rw [hR, show 32 - k = (31 - k) + 1 by omega, Nat.pow_succ, Nat.mul_comm]
  have h2 : 2 ^ (32 - (k + 1)) = R := by rw [hR, show 32 - (k + 1) = 31 - k by omega]
  have h3 : 2 ^ (k + 1) = P * 2 := by rw [Nat.pow_succ, hP]
  rw [h1, h2, h3, ← hP, Nat.mod_mul, ← Nat.div_div_eq_div_mul]
  generalize x / P = a
  generalize x % P = b
  have e1 : b * (2 * R) + a = 2 * (b * R) + a := by rw [← Nat.mul_assoc, Nat.mul_comm b 2, Nat.mul_assoc]
  rw [e1, Nat.add_mul, Nat.mul_right_comm, hPR]
  generalize b * R = z
  omega
def RrRel (x n : Nat) (v u : Value) : Prop := ∃ k : Nat, u = .int .i64 (k : Int) ∧ k ≤ n ∧ v = .int .u32 ((rotr k x : Nat) : Int)
set_option maxHeartbeats 1000000 in
theorem right_any (x n : Nat) (hx : x < 4294967296) (hn : n ≤ 32) (w : World) : Calls Tryd.prog 38 #[.int .u32 (x : Int), .int .i64 (n : Int)] w fun e w' => e = .returned (.int .u32 ((rotr n x : Nat) : Int)) ∧ w = w' := by
  have hnI : (n : Int) ≤ 32 := by omega
  go_enter Tryd.func38, Tryd.ntmps38
  go_wp2
  go_loop [0, 5] (fun v u => RrRel x n v u) (fun _ u => n - (intOf u).toNat)
  case atStart => exact ⟨0, rfl, Nat.zero_le _, by rw [rotr_zero]⟩
  case round =>
    obtain ⟨k, rfl, hk, rfl⟩ := hrel
    by_cases hkn : k < n
    · have hlt := rotr_lt (k := k) (by omega) hx
      have hs := rotr_succ (k := k) (x := x) (by omega)
      obtain ⟨y, hy⟩ : ∃ y, y = rotr k x := ⟨_, rfl⟩
      rw [← hy] at hlt hs ⊢
      have HS := Lib.hid hs
      have hyI : (y : Int) < 4294967296 := by omega
      have hkI : (k : Int) < (n : Int) := by omega
      clear hs hy
      go_wp2
      go_round
      case rel => exact ⟨k + 1, by go_num, by omega, by rw [HS.out]; exact congrArg _ (by simp; try omega)⟩
      case measure => simp [intOf]; omega
    · obtain rfl : k = n := by omega
      go_wp2
      go_ret
      exact ⟨rfl, rfl⟩
def RlRel (x n : Nat) (v u : Value) : Prop := ∃ k : Nat, u = .int .i64 (k : Int) ∧ k ≤ n ∧ v = .int .u32 ((x / 2 ^ k : Nat) : Int)
set_option maxHeartbeats 1000000 in
theorem less_any (x n : Nat) (hx : x < 4294967296) (hn : n ≤ 32) (w : World) : Calls Tryd.prog 39 #[.int .u32 (x : Int), .int .i64 (n : Int)] w fun e w' => e = .returned (.int .u32 ((x / 2 ^ n : Nat) : Int)) ∧ w = w' := by
  have hnI : (n : Int) ≤ 32 := by omega
  go_enter Tryd.func39, Tryd.ntmps39
  go_wp2
  go_loop [0, 5] (fun v u => RlRel x n v u) (fun _ u => n - (intOf u).toNat)
  case atStart => exact ⟨0, rfl, Nat.zero_le _, by simp⟩
  case round =>
    obtain ⟨k, rfl, hk, rfl⟩ := hrel
    by_cases hkn : k < n
    · have hs : x / 2 ^ (k + 1) = x / 2 ^ k / 2 := by rw [Nat.pow_succ, Nat.div_div_eq_div_mul]
      have hlt : x / 2 ^ k < 4294967296 := Nat.lt_of_le_of_lt (Nat.div_le_self _ _) hx
      obtain ⟨y, hy⟩ : ∃ y, y = x / 2 ^ k := ⟨_, rfl⟩
      rw [← hy] at hlt hs ⊢
      have HS := Lib.hid hs
      have hyI : (y : Int) < 4294967296 := by omega
      have hkI : (k : Int) < (n : Int) := by omega
      clear hs hy
      go_wp2
      go_round
      case rel => exact ⟨k + 1, by go_num, by omega, by rw [HS.out]; simp⟩
      case measure => simp [intOf]; omega
    · obtain rfl : k = n := by omega
      go_wp2
      go_ret
      exact ⟨rfl, rfl⟩
set_option maxRecDepth 100000 in
set_option maxHeartbeats 1000000 in
theorem list_any (w : World) : Calls Tryd.prog 37 #[] w fun e w' => e = .returned (.slice (some ⟨w.heap.size, 0, none⟩) 64 64) ∧ w' = w.alloc (.cells (u32s K0).toArray 24) := by
  go_enter Tryd.func37, Tryd.ntmps37
  go_wp2
  go_ret
  exact ⟨rfl, rfl⟩
end Go.Proofs.YtejbookaflnpeaaDoor
