/- math/bits.RotateLeft32 at the counts that SHA-256 uses, and the two kinds of sigma: numbers below 2^32 as naturals. -/
import Derived.Test.YtejbookaflnpeabDoorRows
import Derived.WalkKit
import Derived.WalkLawsBesides
import Derived.WalkSpells
import Derived.Handy
import Derived.Lib.Hide
import Derived.Outline
import Derived.Laws.BitsAllLaws
import Derived.Deep.QuietTactic
import Derived.BigQuiet
import Derived.Deep.RegionWith
namespace Go.Proofs.YtejbookaflnpeabDoor
open Go Go.RowKit
set_option linter.unusedVariables false

theorem ret_int {k : IntKind} {a b : Int} (h : a = b) : Ending.returned (.int k a) = .returned (.int k b) := by rw [h]

/-- A number's 32 bits turned to the right by k. -/
def rotr (k x : Nat) : Nat := x % 2 ^ k * 2 ^ (32 - k) + x / 2 ^ k
theorem rotr_lt {k x : Nat} (hk : k ≤ 32) (hx : x < 4294967296) : rotr k x < 4294967296 := by
  unfold rotr
  have hp : 2 ^ k * 2 ^ (32 - k) = 4294967296 := by rw [← Nat.pow_add, show k + (32 - k) = 32 by omega]
  have h1 : x % 2 ^ k < 2 ^ k := Nat.mod_lt _ (Nat.two_pow_pos k)
  have h2 : x / 2 ^ k < 2 ^ (32 - k) := by
    rw [Nat.div_lt_iff_lt_mul (Nat.two_pow_pos k), Nat.mul_comm, hp]
    exact hx
  have h3 : (x % 2 ^ k + 1) * 2 ^ (32 - k) ≤ 2 ^ k * 2 ^ (32 - k) := Nat.mul_le_mul_right _ h1
  rw [Nat.add_mul, Nat.one_mul, hp] at h3
  omega
/-- As the text reckons it. -/
theorem rotr_bits {k x P Q : Nat} (hk : k ≤ 32) (hx : x < 4294967296) (hP : P = 2 ^ k) (hQ : Q = 2 ^ (32 - k)) :
    bits BinOp.or IntKind.u32 (IntKind.u32.wrap ((x : Int) * (Q : Int))) ((x : Int) / (P : Int)) = (rotr k x : Int) := by
  have hp : P * Q = 4294967296 := by rw [hP, hQ, ← Nat.pow_add, show k + (32 - k) = 32 by omega]
  have e1 : IntKind.u32.wrap ((x : Int) * (Q : Int)) = ((x % P * Q : Nat) : Int) := by
    rw [IntKind.wrap_u32, ← Int.natCast_mul]
    have : x * Q % 4294967296 = x % P * Q := by rw [← hp, Nat.mul_mod_mul_right]
    omega
  have e2 : (x : Int) / (P : Int) = ((x / P : Nat) : Int) := by simp
  have hP0 : 0 < P := by rw [hP]; exact Nat.two_pow_pos k
  have hQ0 : 0 < Q := by rw [hQ]; exact Nat.two_pow_pos _
  have h2 : x / P < Q := by
    rw [Nat.div_lt_iff_lt_mul hP0, Nat.mul_comm, hp]
    exact hx
  have h1 : x % P < P := Nat.mod_lt _ hP0
  have h3 : (x % P + 1) * Q ≤ P * Q := Nat.mul_le_mul_right _ h1
  rw [Nat.add_mul, Nat.one_mul, hp] at h3
  rw [e1, e2, u32_or_nat _ _ (by omega) (by omega), nat_join (32 - k) _ _ (by rw [← hQ]; exact Nat.mul_mod_left _ _) (by rw [← hQ]; exact h2)]
  simp [rotr, hP, hQ]

/-- A number's 32 bits moved to the right. -/
def sig0 (x : Nat) : Nat := rotr 7 x ^^^ rotr 18 x ^^^ x / 8
def sig1 (x : Nat) : Nat := rotr 17 x ^^^ rotr 19 x ^^^ x / 1024
def Sig0 (x : Nat) : Nat := rotr 2 x ^^^ rotr 13 x ^^^ rotr 22 x
def Sig1 (x : Nat) : Nat := rotr 6 x ^^^ rotr 11 x ^^^ rotr 25 x
theorem xor_lt {a b : Nat} (ha : a < 4294967296) (hb : b < 4294967296) : a ^^^ b < 4294967296 := Nat.xor_lt_two_pow (n := 32) ha hb
theorem and_lt {a b : Nat} (ha : a < 4294967296) : a &&& b < 4294967296 := Nat.lt_of_le_of_lt Nat.and_le_left ha
theorem sig0_lt {x : Nat} (hx : x < 4294967296) : sig0 x < 4294967296 := xor_lt (xor_lt (rotr_lt (by decide) hx) (rotr_lt (by decide) hx)) (by omega)
theorem sig1_lt {x : Nat} (hx : x < 4294967296) : sig1 x < 4294967296 := xor_lt (xor_lt (rotr_lt (by decide) hx) (rotr_lt (by decide) hx)) (by omega)
theorem Sig0_lt {x : Nat} (hx : x < 4294967296) : Sig0 x < 4294967296 := xor_lt (xor_lt (rotr_lt (by decide) hx) (rotr_lt (by decide) hx)) (rotr_lt (by decide) hx)
theorem Sig1_lt {x : Nat} (hx : x < 4294967296) : Sig1 x < 4294967296 := xor_lt (xor_lt (rotr_lt (by decide) hx) (rotr_lt (by decide) hx)) (rotr_lt (by decide) hx)

theorem rot_2 (x : Nat) (w : World) (hx : x < 4294967296) : Calls Tryd.prog 73 #[.int .u32 (x : Int), .int .i64 (-2)] w fun e w' => e = .returned (.int .u32 (rotr 2 x : Int)) ∧ w = w' := by
  have hs : bits BinOp.and IntKind.u64 (IntKind.u64.wrap (-2)) 31 = 30 := by decide
  have E := rotr_bits (k := 2) (P := 4) (Q := 1073741824) (by decide) hx (by decide) (by decide)
  have HE := Lib.hid E
  clear E
  go_enter Tryd.func73, Tryd.ntmps73
  go_wp2
  go_ret
  exact ⟨ret_int (by simpa [IntKind.wrap_u32] using HE.out), rfl⟩

theorem rot_6 (x : Nat) (w : World) (hx : x < 4294967296) : Calls Tryd.prog 73 #[.int .u32 (x : Int), .int .i64 (-6)] w fun e w' => e = .returned (.int .u32 (rotr 6 x : Int)) ∧ w = w' := by
  have hs : bits BinOp.and IntKind.u64 (IntKind.u64.wrap (-6)) 31 = 26 := by decide
  have E := rotr_bits (k := 6) (P := 64) (Q := 67108864) (by decide) hx (by decide) (by decide)
  have HE := Lib.hid E
  clear E
  go_enter Tryd.func73, Tryd.ntmps73
  go_wp2
  go_ret
  exact ⟨ret_int (by simpa [IntKind.wrap_u32] using HE.out), rfl⟩

theorem rot_7 (x : Nat) (w : World) (hx : x < 4294967296) : Calls Tryd.prog 73 #[.int .u32 (x : Int), .int .i64 (-7)] w fun e w' => e = .returned (.int .u32 (rotr 7 x : Int)) ∧ w = w' := by
  have hs : bits BinOp.and IntKind.u64 (IntKind.u64.wrap (-7)) 31 = 25 := by decide
  have E := rotr_bits (k := 7) (P := 128) (Q := 33554432) (by decide) hx (by decide) (by decide)
  have HE := Lib.hid E
  clear E
  go_enter Tryd.func73, Tryd.ntmps73
  go_wp2
  go_ret
  exact ⟨ret_int (by simpa [IntKind.wrap_u32] using HE.out), rfl⟩

theorem rot_11 (x : Nat) (w : World) (hx : x < 4294967296) : Calls Tryd.prog 73 #[.int .u32 (x : Int), .int .i64 (-11)] w fun e w' => e = .returned (.int .u32 (rotr 11 x : Int)) ∧ w = w' := by
  have hs : bits BinOp.and IntKind.u64 (IntKind.u64.wrap (-11)) 31 = 21 := by decide
  have E := rotr_bits (k := 11) (P := 2048) (Q := 2097152) (by decide) hx (by decide) (by decide)
  have HE := Lib.hid E
  clear E
  go_enter Tryd.func73, Tryd.ntmps73
  go_wp2
  go_ret
  exact ⟨ret_int (by simpa [IntKind.wrap_u32] using HE.out), rfl⟩

theorem rot_13 (x : Nat) (w : World) (hx : x < 4294967296) : Calls Tryd.prog 73 #[.int .u32 (x : Int), .int .i64 (-13)] w fun e w' => e = .returned (.int .u32 (rotr 13 x : Int)) ∧ w = w' := by
  have hs : bits BinOp.and IntKind.u64 (IntKind.u64.wrap (-13)) 31 = 19 := by decide
  have E := rotr_bits (k := 13) (P := 8192) (Q := 524288) (by decide) hx (by decide) (by decide)
  have HE := Lib.hid E
  clear E
  go_enter Tryd.func73, Tryd.ntmps73
  go_wp2
  go_ret
  exact ⟨ret_int (by simpa [IntKind.wrap_u32] using HE.out), rfl⟩

theorem rot_17 (x : Nat) (w : World) (hx : x < 4294967296) : Calls Tryd.prog 73 #[.int .u32 (x : Int), .int .i64 (-17)] w fun e w' => e = .returned (.int .u32 (rotr 17 x : Int)) ∧ w = w' := by
  have hs : bits BinOp.and IntKind.u64 (IntKind.u64.wrap (-17)) 31 = 15 := by decide
  have E := rotr_bits (k := 17) (P := 131072) (Q := 32768) (by decide) hx (by decide) (by decide)
  have HE := Lib.hid E
  clear E
  go_enter Tryd.func73, Tryd.ntmps73
  go_wp2
  go_ret
  exact ⟨ret_int (by simpa [IntKind.wrap_u32] using HE.out), rfl⟩

theorem rot_18 (x : Nat) (w : World) (hx : x < 4294967296) : Calls Tryd.prog 73 #[.int .u32 (x : Int), .int .i64 (-18)] w fun e w' => e = .returned (.int .u32 (rotr 18 x : Int)) ∧ w = w' := by
  have hs : bits BinOp.and IntKind.u64 (IntKind.u64.wrap (-18)) 31 = 14 := by decide
  have E := rotr_bits (k := 18) (P := 262144) (Q := 16384) (by decide) hx (by decide) (by decide)
  have HE := Lib.hid E
  clear E
  go_enter Tryd.func73, Tryd.ntmps73
  go_wp2
  go_ret
  exact ⟨ret_int (by simpa [IntKind.wrap_u32] using HE.out), rfl⟩

theorem rot_19 (x : Nat) (w : World) (hx : x < 4294967296) : Calls Tryd.prog 73 #[.int .u32 (x : Int), .int .i64 (-19)] w fun e w' => e = .returned (.int .u32 (rotr 19 x : Int)) ∧ w = w' := by
  have hs : bits BinOp.and IntKind.u64 (IntKind.u64.wrap (-19)) 31 = 13 := by decide
  have E := rotr_bits (k := 19) (P := 524288) (Q := 8192) (by decide) hx (by decide) (by decide)
  have HE := Lib.hid E
  clear E
  go_enter Tryd.func73, Tryd.ntmps73
  go_wp2
  go_ret
  exact ⟨ret_int (by simpa [IntKind.wrap_u32] using HE.out), rfl⟩

theorem rot_22 (x : Nat) (w : World) (hx : x < 4294967296) : Calls Tryd.prog 73 #[.int .u32 (x : Int), .int .i64 (-22)] w fun e w' => e = .returned (.int .u32 (rotr 22 x : Int)) ∧ w = w' := by
  have hs : bits BinOp.and IntKind.u64 (IntKind.u64.wrap (-22)) 31 = 10 := by decide
  have E := rotr_bits (k := 22) (P := 4194304) (Q := 1024) (by decide) hx (by decide) (by decide)
  have HE := Lib.hid E
  clear E
  go_enter Tryd.func73, Tryd.ntmps73
  go_wp2
  go_ret
  exact ⟨ret_int (by simpa [IntKind.wrap_u32] using HE.out), rfl⟩

theorem rot_25 (x : Nat) (w : World) (hx : x < 4294967296) : Calls Tryd.prog 73 #[.int .u32 (x : Int), .int .i64 (-25)] w fun e w' => e = .returned (.int .u32 (rotr 25 x : Int)) ∧ w = w' := by
  have hs : bits BinOp.and IntKind.u64 (IntKind.u64.wrap (-25)) 31 = 7 := by decide
  have E := rotr_bits (k := 25) (P := 33554432) (Q := 128) (by decide) hx (by decide) (by decide)
  have HE := Lib.hid E
  clear E
  go_enter Tryd.func73, Tryd.ntmps73
  go_wp2
  go_ret
  exact ⟨ret_int (by simpa [IntKind.wrap_u32] using HE.out), rfl⟩

theorem big_0 (x : Nat) (w : World) (hx : x < 4294967296) : Calls Tryd.prog 66 #[.int .u32 (x : Int), .int .i64 2, .int .i64 13, .int .i64 22] w fun e w' => e = .returned (.int .u32 (Sig0 x : Int)) ∧ w = w' := by
  go_enter Tryd.func66, Tryd.ntmps66
  go_wp2_with fail
  refine (rot_2 x w hx).mono ?_
  rintro e w' ⟨rfl, rfl⟩
  go_wp2_with fail
  refine (rot_13 x w hx).mono ?_
  rintro e w' ⟨rfl, rfl⟩
  go_wp2_with fail
  refine (rot_22 x w hx).mono ?_
  rintro e w' ⟨rfl, rfl⟩
  go_wp2_with fail
  go_ret
  refine ⟨ret_int ?_, rfl⟩
  rw [u32_xor_nat _ _ (rotr_lt (by decide) hx) (rotr_lt (by decide) hx), u32_xor_nat _ _ (xor_lt (rotr_lt (by decide) hx) (rotr_lt (by decide) hx)) (rotr_lt (by decide) hx)]
  rfl
theorem big_1 (x : Nat) (w : World) (hx : x < 4294967296) : Calls Tryd.prog 66 #[.int .u32 (x : Int), .int .i64 6, .int .i64 11, .int .i64 25] w fun e w' => e = .returned (.int .u32 (Sig1 x : Int)) ∧ w = w' := by
  go_enter Tryd.func66, Tryd.ntmps66
  go_wp2_with fail
  refine (rot_6 x w hx).mono ?_
  rintro e w' ⟨rfl, rfl⟩
  go_wp2_with fail
  refine (rot_11 x w hx).mono ?_
  rintro e w' ⟨rfl, rfl⟩
  go_wp2_with fail
  refine (rot_25 x w hx).mono ?_
  rintro e w' ⟨rfl, rfl⟩
  go_wp2_with fail
  go_ret
  refine ⟨ret_int ?_, rfl⟩
  rw [u32_xor_nat _ _ (rotr_lt (by decide) hx) (rotr_lt (by decide) hx), u32_xor_nat _ _ (xor_lt (rotr_lt (by decide) hx) (rotr_lt (by decide) hx)) (rotr_lt (by decide) hx)]
  rfl
/-- All of them, by the count. -/
theorem rotq (x : Nat) (c : Int) (w : World) (hc : c = -7 ∨ c = -18 ∨ c = -17 ∨ c = -19) (hx : x < 4294967296) :
    Calls Tryd.prog 73 #[.int .u32 (x : Int), .int .i64 c] w fun e w' => e = .returned (.int .u32 (rotr (-c).toNat x : Int)) ∧ w' = w := by
  rcases hc with rfl | rfl | rfl | rfl
  · exact (rot_7 x w hx).mono fun _ _ h => ⟨h.1, h.2.symm⟩
  · exact (rot_18 x w hx).mono fun _ _ h => ⟨h.1, h.2.symm⟩
  · exact (rot_17 x w hx).mono fun _ _ h => ⟨h.1, h.2.symm⟩
  · exact (rot_19 x w hx).mono fun _ _ h => ⟨h.1, h.2.symm⟩
theorem rotqa (x : Nat) (c : Int) (w : World) (m : Nat) (hc : c = -7 ∨ c = -18 ∨ c = -17 ∨ c = -19) (hx : x < 4294967296) :
    Calls Tryd.prog 73 #[.int .u32 (x : Int), .int .i64 c] (w.drewN m) fun e w' => e = .returned (.int .u32 (rotr (-c).toNat x : Int)) ∧ ∃ n, w' = w.drewN n :=
  (rotq x c _ hc hx).mono fun _ _ h => ⟨h.1, m, h.2⟩
set_option maxHeartbeats 400000 in
theorem small_0 (x : Nat) (w : World) (hx : x < 4294967296) : Calls Tryd.prog 67 #[.int .u32 (x : Int), .int .i64 7, .int .i64 18, .int .i64 3] w fun e w' => e = .returned (.int .u32 (sig0 x : Int)) ∧ ∃ n, w' = w.drewN n := by
  go_enter Tryd.func67, Tryd.ntmps67
  go_wp2_with fail
  go_quiet ((go_at_call 73; exact rotqa x _ w _ (by decide) hx))
  go_wp2_with fail
  go_ret
  refine ⟨ret_int ?_, _, rfl⟩
  have e : (x : Int) / 8 = ((x / 8 : Nat) : Int) := by simp
  show bits _ _ (bits _ _ ((rotr 7 x : Nat) : Int) ((rotr 18 x : Nat) : Int)) _ = _
  rw [u32_xor_nat _ _ (rotr_lt (by decide) hx) (rotr_lt (by decide) hx), e, u32_xor_nat _ _ (xor_lt (rotr_lt (by decide) hx) (rotr_lt (by decide) hx)) (by omega)]
  rfl
set_option maxHeartbeats 400000 in
theorem small_1 (x : Nat) (w : World) (hx : x < 4294967296) : Calls Tryd.prog 67 #[.int .u32 (x : Int), .int .i64 17, .int .i64 19, .int .i64 10] w fun e w' => e = .returned (.int .u32 (sig1 x : Int)) ∧ ∃ n, w' = w.drewN n := by
  go_enter Tryd.func67, Tryd.ntmps67
  go_wp2_with fail
  go_quiet ((go_at_call 73; exact rotqa x _ w _ (by decide) hx))
  go_wp2_with fail
  go_ret
  refine ⟨ret_int ?_, _, rfl⟩
  have e : (x : Int) / 1024 = ((x / 1024 : Nat) : Int) := by simp
  show bits _ _ (bits _ _ ((rotr 17 x : Nat) : Int) ((rotr 19 x : Nat) : Int)) _ = _
  rw [u32_xor_nat _ _ (rotr_lt (by decide) hx) (rotr_lt (by decide) hx), e, u32_xor_nat _ _ (xor_lt (rotr_lt (by decide) hx) (rotr_lt (by decide) hx)) (by omega)]
  rfl
end Go.Proofs.YtejbookaflnpeabDoor
