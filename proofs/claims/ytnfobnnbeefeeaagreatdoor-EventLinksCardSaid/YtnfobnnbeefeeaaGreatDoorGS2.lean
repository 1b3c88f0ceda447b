/- math/bits.RotateLeft32 at the counts that SHA-256 uses, and the two kinds of sigma: numbers below 2^32 as naturals. -/
import Derived.Test.YtnfobnnbeefeeaaGreatDoorRows
import Derived.WalkKit
import Derived.WalkLawsBesides
import Derived.WalkSpells
import Derived.Handy
import Derived.Lib.Hide
import Derived.Outline
import Derived.Laws.BitsAllLaws
import Derived.Deep.QuietTactic
import Derived.BigQuiet
import Derived.Deep.RegionWith
import Derived.Laws.Rows
import Derived.Laws.CopyOwn
import Derived.Deep.MidRow
import Derived.StillTail
import Derived.StillTailTactics
namespace Go.Proofs.YtnfobnnbeefeeaaGreatDoor.Sm
open Go Go.RowKit
set_option linter.unusedVariables false

theorem ret_int {k : IntKind} {a b : Int} (h : a = b) : Ending.returned (.int k a) = .returned (.int k b) := by rw [h]

/-- A number's 32 bits turned to the right by k. -/
def rotr (k x : Nat) : Nat := x % 2 ^ k * 2 ^ (32 - k) + x / 2 ^ k
theorem rotr_lt {k x : Nat} (hk : k ≤ 32) (hx : x < 4294967296) : rotr k x < 4294967296 := by
  unfold rotr
  have hp : 2 ^ k * 2 ^ (32 - k) = 4294967296 := by rw [← Nat.pow_add, show k + (32 - k) = 32 by omega]
  have h1 : x % 2 ^ k < 2 ^ k := Nat.mod_lt _ (Nat.two_pow_pos k)
  have h2 : x / 2 ^ k < 2 ^ (32 - k) := by
    rw [Nat.div_lt_iff_lt_mul (Nat.two_pow_pos k), Nat.mul_comm, hp]
    exact hx
  have h3 : (x % 2 ^ k + 1) * 2 ^ (32 - k) ≤ 2 ^ k * 2 ^ (32 - k) := Nat.mul_le_mul_right _ h1
  rw [Nat.add_mul, Nat.one_mul, hp] at h3
  omega
/-- As the text reckons it. -/
theorem rotr_bits {k x P Q : Nat} (hk : k ≤ 32) (hx : x < 4294967296) (hP : P = 2 ^ k) (hQ : Q = 2 ^ (32 - k)) :
    bits BinOp.or IntKind.u32 (IntKind.u32.wrap ((x : Int) * (Q : Int))) ((x : Int) / (P : Int)) = (rotr k x : Int) := by
  have hp : P * Q = 4294967296 := by rw [hP, hQ, ← Nat.pow_add, show k + (32 - k) = 32 by omega]
  have e1 : IntKind.u32.wrap ((x : Int) * (Q : Int)) = ((x % P * Q : Nat) : Int) := by
    rw [IntKind.wrap_u32, ← Int.natCast_mul]
    have : x * Q % 4294967296 = x % P * Q := by rw [← hp, Nat.mul_mod_mul_right]
    omega
  have e2 : (x : Int) / (P : Int) = ((x / P : Nat) : Int) := by simp
  have hP0 : 0 < P := by rw [hP]; exact Nat.two_pow_pos k
  have hQ0 : 0 < Q := by rw [hQ]; exact Nat.two_pow_pos _
  have h2 : x / P < Q := by
    rw [Nat.div_lt_iff_lt_mul hP0, Nat.mul_comm, hp]
    exact hx
  have h1 : x % P < P := Nat.mod_lt _ hP0
  have h3 : (x % P + 1) * Q ≤ P * Q := Nat.mul_le_mul_right _ h1
  rw [Nat.add_mul, Nat.one_mul, hp] at h3
  rw [e1, e2, u32_or_nat _ _ (by omega) (by omega), nat_join (32 - k) _ _ (by rw [← hQ]; exact Nat.mul_mod_left _ _) (by rw [← hQ]; exact h2)]
  simp [rotr, hP, hQ]

/-- A number's 32 bits moved to the right. -/
def sig0 (x : Nat) : Nat := rotr 7 x ^^^ rotr 18 x ^^^ x / 8
def sig1 (x : Nat) : Nat := rotr 17 x ^^^ rotr 19 x ^^^ x / 1024
def Sig0 (x : Nat) : Nat := rotr 2 x ^^^ rotr 13 x ^^^ rotr 22 x
def Sig1 (x : Nat) : Nat := rotr 6 x ^^^ rotr 11 x ^^^ rotr 25 x
theorem xor_lt {a b : Nat} (ha : a < 4294967296) (hb : b < 4294967296) : a ^^^ b < 4294967296 := Nat.xor_lt_two_pow (n := 32) ha hb
theorem and_lt {a b : Nat} (ha : a < 4294967296) : a &&& b < 4294967296 := Nat.lt_of_le_of_lt Nat.and_le_left ha
theorem sig0_lt {x : Nat} (hx : x < 4294967296) : sig0 x < 4294967296 := xor_lt (xor_lt (rotr_lt (by decide) hx) (rotr_lt (by decide) hx)) (by omega)
theorem sig1_lt {x : Nat} (hx : x < 4294967296) : sig1 x < 4294967296 := xor_lt (xor_lt (rotr_lt (by decide) hx) (rotr_lt (by decide) hx)) (by omega)
theorem Sig0_lt {x : Nat} (hx : x < 4294967296) : Sig0 x < 4294967296 := xor_lt (xor_lt (rotr_lt (by decide) hx) (rotr_lt (by decide) hx)) (rotr_lt (by decide) hx)
theorem Sig1_lt {x : Nat} (hx : x < 4294967296) : Sig1 x < 4294967296 := xor_lt (xor_lt (rotr_lt (by decide) hx) (rotr_lt (by decide) hx)) (rotr_lt (by decide) hx)

theorem rot_2 (x : Nat) (w : World) (hx : x < 4294967296) : Calls Tryz.prog 193 #[.int .u32 (x : Int), .int .i64 (-2)] w fun e w' => e = .returned (.int .u32 (rotr 2 x : Int)) ∧ w = w' := by
  have hs : bits BinOp.and IntKind.u64 (IntKind.u64.wrap (-2)) 31 = 30 := by decide
  have E := rotr_bits (k := 2) (P := 4) (Q := 1073741824) (by decide) hx (by decide) (by decide)
  have HE := Lib.hid E
  clear E
  go_enter Tryz.func193, Tryz.ntmps193
  go_wp2
  go_ret
  exact ⟨ret_int (by simpa [IntKind.wrap_u32] using HE.out), rfl⟩

theorem rot_6 (x : Nat) (w : World) (hx : x < 4294967296) : Calls Tryz.prog 193 #[.int .u32 (x : Int), .int .i64 (-6)] w fun e w' => e = .returned (.int .u32 (rotr 6 x : Int)) ∧ w = w' := by
  have hs : bits BinOp.and IntKind.u64 (IntKind.u64.wrap (-6)) 31 = 26 := by decide
  have E := rotr_bits (k := 6) (P := 64) (Q := 67108864) (by decide) hx (by decide) (by decide)
  have HE := Lib.hid E
  clear E
  go_enter Tryz.func193, Tryz.ntmps193
  go_wp2
  go_ret
  exact ⟨ret_int (by simpa [IntKind.wrap_u32] using HE.out), rfl⟩

theorem rot_7 (x : Nat) (w : World) (hx : x < 4294967296) : Calls Tryz.prog 193 #[.int .u32 (x : Int), .int .i64 (-7)] w fun e w' => e = .returned (.int .u32 (rotr 7 x : Int)) ∧ w = w' := by
  have hs : bits BinOp.and IntKind.u64 (IntKind.u64.wrap (-7)) 31 = 25 := by decide
  have E := rotr_bits (k := 7) (P := 128) (Q := 33554432) (by decide) hx (by decide) (by decide)
  have HE := Lib.hid E
  clear E
  go_enter Tryz.func193, Tryz.ntmps193
  go_wp2
  go_ret
  exact ⟨ret_int (by simpa [IntKind.wrap_u32] using HE.out), rfl⟩

theorem rot_11 (x : Nat) (w : World) (hx : x < 4294967296) : Calls Tryz.prog 193 #[.int .u32 (x : Int), .int .i64 (-11)] w fun e w' => e = .returned (.int .u32 (rotr 11 x : Int)) ∧ w = w' := by
  have hs : bits BinOp.and IntKind.u64 (IntKind.u64.wrap (-11)) 31 = 21 := by decide
  have E := rotr_bits (k := 11) (P := 2048) (Q := 2097152) (by decide) hx (by decide) (by decide)
  have HE := Lib.hid E
  clear E
  go_enter Tryz.func193, Tryz.ntmps193
  go_wp2
  go_ret
  exact ⟨ret_int (by simpa [IntKind.wrap_u32] using HE.out), rfl⟩

theorem rot_13 (x : Nat) (w : World) (hx : x < 4294967296) : Calls Tryz.prog 193 #[.int .u32 (x : Int), .int .i64 (-13)] w fun e w' => e = .returned (.int .u32 (rotr 13 x : Int)) ∧ w = w' := by
  have hs : bits BinOp.and IntKind.u64 (IntKind.u64.wrap (-13)) 31 = 19 := by decide
  have E := rotr_bits (k := 13) (P := 8192) (Q := 524288) (by decide) hx (by decide) (by decide)
  have HE := Lib.hid E
  clear E
  go_enter Tryz.func193, Tryz.ntmps193
  go_wp2
  go_ret
  exact ⟨ret_int (by simpa [IntKind.wrap_u32] using HE.out), rfl⟩

theorem rot_17 (x : Nat) (w : World) (hx : x < 4294967296) : Calls Tryz.prog 193 #[.int .u32 (x : Int), .int .i64 (-17)] w fun e w' => e = .returned (.int .u32 (rotr 17 x : Int)) ∧ w = w' := by
  have hs : bits BinOp.and IntKind.u64 (IntKind.u64.wrap (-17)) 31 = 15 := by decide
  have E := rotr_bits (k := 17) (P := 131072) (Q := 32768) (by decide) hx (by decide) (by decide)
  have HE := Lib.hid E
  clear E
  go_enter Tryz.func193, Tryz.ntmps193
  go_wp2
  go_ret
  exact ⟨ret_int (by simpa [IntKind.wrap_u32] using HE.out), rfl⟩

theorem rot_18 (x : Nat) (w : World) (hx : x < 4294967296) : Calls Tryz.prog 193 #[.int .u32 (x : Int), .int .i64 (-18)] w fun e w' => e = .returned (.int .u32 (rotr 18 x : Int)) ∧ w = w' := by
  have hs : bits BinOp.and IntKind.u64 (IntKind.u64.wrap (-18)) 31 = 14 := by decide
  have E := rotr_bits (k := 18) (P := 262144) (Q := 16384) (by decide) hx (by decide) (by decide)
  have HE := Lib.hid E
  clear E
  go_enter Tryz.func193, Tryz.ntmps193
  go_wp2
  go_ret
  exact ⟨ret_int (by simpa [IntKind.wrap_u32] using HE.out), rfl⟩

theorem rot_19 (x : Nat) (w : World) (hx : x < 4294967296) : Calls Tryz.prog 193 #[.int .u32 (x : Int), .int .i64 (-19)] w fun e w' => e = .returned (.int .u32 (rotr 19 x : Int)) ∧ w = w' := by
  have hs : bits BinOp.and IntKind.u64 (IntKind.u64.wrap (-19)) 31 = 13 := by decide
  have E := rotr_bits (k := 19) (P := 524288) (Q := 8192) (by decide) hx (by decide) (by decide)
  have HE := Lib.hid E
  clear E
  go_enter Tryz.func193, Tryz.ntmps193
  go_wp2
  go_ret
  exact ⟨ret_int (by simpa [IntKind.wrap_u32] using HE.out), rfl⟩

theorem rot_22 (x : Nat) (w : World) (hx : x < 4294967296) : Calls Tryz.prog 193 #[.int .u32 (x : Int), .int .i64 (-22)] w fun e w' => e = .returned (.int .u32 (rotr 22 x : Int)) ∧ w = w' := by
  have hs : bits BinOp.and IntKind.u64 (IntKind.u64.wrap (-22)) 31 = 10 := by decide
  have E := rotr_bits (k := 22) (P := 4194304) (Q := 1024) (by decide) hx (by decide) (by decide)
  have HE := Lib.hid E
  clear E
  go_enter Tryz.func193, Tryz.ntmps193
  go_wp2
  go_ret
  exact ⟨ret_int (by simpa [IntKind.wrap_u32] using HE.out), rfl⟩

theorem rot_25 (x : Nat) (w : World) (hx : x < 4294967296) : Calls Tryz.prog 193 #[.int .u32 (x : Int), .int .i64 (-25)] w fun e w' => e = .returned (.int .u32 (rotr 25 x : Int)) ∧ w = w' := by
  have hs : bits BinOp.and IntKind.u64 (IntKind.u64.wrap (-25)) 31 = 7 := by decide
  have E := rotr_bits (k := 25) (P := 33554432) (Q := 128) (by decide) hx (by decide) (by decide)
  have HE := Lib.hid E
  clear E
  go_enter Tryz.func193, Tryz.ntmps193
  go_wp2
  go_ret
  exact ⟨ret_int (by simpa [IntKind.wrap_u32] using HE.out), rfl⟩

theorem big_0 (x : Nat) (w : World) (hx : x < 4294967296) : Calls Tryz.prog 191 #[.int .u32 (x : Int), .int .i64 2, .int .i64 13, .int .i64 22] w fun e w' => e = .returned (.int .u32 (Sig0 x : Int)) ∧ w = w' := by
  go_enter Tryz.func191, Tryz.ntmps191
  go_wp2_with fail
  refine (rot_2 x w hx).mono ?_
  rintro e w' ⟨rfl, rfl⟩
  go_wp2_with fail
  refine (rot_13 x w hx).mono ?_
  rintro e w' ⟨rfl, rfl⟩
  go_wp2_with fail
  refine (rot_22 x w hx).mono ?_
  rintro e w' ⟨rfl, rfl⟩
  go_wp2_with fail
  go_ret
  refine ⟨ret_int ?_, rfl⟩
  rw [u32_xor_nat _ _ (rotr_lt (by decide) hx) (rotr_lt (by decide) hx), u32_xor_nat _ _ (xor_lt (rotr_lt (by decide) hx) (rotr_lt (by decide) hx)) (rotr_lt (by decide) hx)]
  rfl
theorem big_1 (x : Nat) (w : World) (hx : x < 4294967296) : Calls Tryz.prog 191 #[.int .u32 (x : Int), .int .i64 6, .int .i64 11, .int .i64 25] w fun e w' => e = .returned (.int .u32 (Sig1 x : Int)) ∧ w = w' := by
  go_enter Tryz.func191, Tryz.ntmps191
  go_wp2_with fail
  refine (rot_6 x w hx).mono ?_
  rintro e w' ⟨rfl, rfl⟩
  go_wp2_with fail
  refine (rot_11 x w hx).mono ?_
  rintro e w' ⟨rfl, rfl⟩
  go_wp2_with fail
  refine (rot_25 x w hx).mono ?_
  rintro e w' ⟨rfl, rfl⟩
  go_wp2_with fail
  go_ret
  refine ⟨ret_int ?_, rfl⟩
  rw [u32_xor_nat _ _ (rotr_lt (by decide) hx) (rotr_lt (by decide) hx), u32_xor_nat _ _ (xor_lt (rotr_lt (by decide) hx) (rotr_lt (by decide) hx)) (rotr_lt (by decide) hx)]
  rfl
/-- All of them, by the count. -/
theorem rotq (x : Nat) (c : Int) (w : World) (hc : c = -7 ∨ c = -18 ∨ c = -17 ∨ c = -19) (hx : x < 4294967296) :
    Calls Tryz.prog 193 #[.int .u32 (x : Int), .int .i64 c] w fun e w' => e = .returned (.int .u32 (rotr (-c).toNat x : Int)) ∧ w' = w := by
  rcases hc with rfl | rfl | rfl | rfl
  · exact (rot_7 x w hx).mono fun _ _ h => ⟨h.1, h.2.symm⟩
  · exact (rot_18 x w hx).mono fun _ _ h => ⟨h.1, h.2.symm⟩
  · exact (rot_17 x w hx).mono fun _ _ h => ⟨h.1, h.2.symm⟩
  · exact (rot_19 x w hx).mono fun _ _ h => ⟨h.1, h.2.symm⟩
theorem rotqa (x : Nat) (c : Int) (w : World) (m : Nat) (hc : c = -7 ∨ c = -18 ∨ c = -17 ∨ c = -19) (hx : x < 4294967296) :
    Calls Tryz.prog 193 #[.int .u32 (x : Int), .int .i64 c] (w.drewN m) fun e w' => e = .returned (.int .u32 (rotr (-c).toNat x : Int)) ∧ ∃ n, w' = w.drewN n :=
  (rotq x c _ hc hx).mono fun _ _ h => ⟨h.1, m, h.2⟩
set_option maxHeartbeats 400000 in
theorem small_0 (x : Nat) (w : World) (hx : x < 4294967296) : Calls Tryz.prog 192 #[.int .u32 (x : Int), .int .i64 7, .int .i64 18, .int .i64 3] w fun e w' => e = .returned (.int .u32 (sig0 x : Int)) ∧ ∃ n, w' = w.drewN n := by
  go_enter Tryz.func192, Tryz.ntmps192
  go_wp2_with fail
  go_quiet ((go_at_call 193; exact rotqa x _ w _ (by decide) hx))
  go_wp2_with fail
  go_ret
  refine ⟨ret_int ?_, _, rfl⟩
  have e : (x : Int) / 8 = ((x / 8 : Nat) : Int) := by simp
  show bits _ _ (bits _ _ ((rotr 7 x : Nat) : Int) ((rotr 18 x : Nat) : Int)) _ = _
  rw [u32_xor_nat _ _ (rotr_lt (by decide) hx) (rotr_lt (by decide) hx), e, u32_xor_nat _ _ (xor_lt (rotr_lt (by decide) hx) (rotr_lt (by decide) hx)) (by omega)]
  rfl
set_option maxHeartbeats 400000 in
theorem small_1 (x : Nat) (w : World) (hx : x < 4294967296) : Calls Tryz.prog 192 #[.int .u32 (x : Int), .int .i64 17, .int .i64 19, .int .i64 10] w fun e w' => e = .returned (.int .u32 (sig1 x : Int)) ∧ ∃ n, w' = w.drewN n := by
  go_enter Tryz.func192, Tryz.ntmps192
  go_wp2_with fail
  go_quiet ((go_at_call 193; exact rotqa x _ w _ (by decide) hx))
  go_wp2_with fail
  go_ret
  refine ⟨ret_int ?_, _, rfl⟩
  have e : (x : Int) / 1024 = ((x / 1024 : Nat) : Int) := by simp
  show bits _ _ (bits _ _ ((rotr 17 x : Nat) : Int) ((rotr 19 x : Nat) : Int)) _ = _
  rw [u32_xor_nat _ _ (rotr_lt (by decide) hx) (rotr_lt (by decide) hx), e, u32_xor_nat _ _ (xor_lt (rotr_lt (by decide) hx) (rotr_lt (by decide) hx)) (by omega)]
  rfl
end Go.Proofs.YtnfobnnbeefeeaaGreatDoor.Sm
/- The 64 rounds of a block. -/
namespace Go.Proofs.YtnfobnnbeefeeaaGreatDoor.Sm
open Go Go.RowKit
set_option linter.unusedVariables false

/-- A whole array stored at the head of a block of its size. -/
theorem wpList_store_all {P : Program} {ops : Array Oper} {rest : List Oper} {op : Oper} {a : Act} {w : World} {Q : Exit → Act → World → Prop} (hgd : op.guard = none) (ty : TypeId) (x y : Operand) (ho : op.op = .store ty x y)
    (g : Nat) (t : TypeId) (old cells : Array Value) (hx : a.eval x = .pointer (some ⟨g, 0, none⟩)) (hy : a.eval y = .agg cells) (hg : w.heap[g]? = some (.cells old t (0, 0)))
    (hi : (P.info? ty).map (·.size) = some cells.size) (hs : old.size = cells.size) (h1 : cells.all (·.oneCell') = true)
    (h : wpList P ops Q rest (a.put op.dst undef) (w.setRow g cells)) : wpList P ops Q (op :: rest) a w :=
  wpList_plain hgd fun _ hK => by
    unfold Oper.wp execOp
    simp only [ho, hx, hy, Instr.storeAt, Instr.sureAddr, Sem.run_bind, Sem.run_pure, Result.andThen_ok, run_storeVar_row w g t ty old cells hg hi hs h1]
    exact hK _ _ h
theorem below_drewN {B : Nat} {a w : World} (h : Below B a w) (n : Nat) : Below B a (w.drewN n) := ⟨h.os, h.tape, h.output, h.size, h.block⟩

def u32s (l : List Nat) : List Value := l.map fun (n : Nat) => Value.int .u32 (n : Int)
theorem u32s_get (l : List Nat) (i : Nat) (h : i < l.length) : (u32s l)[i]? = some (.int .u32 ((l.getD i 0 : Nat) : Int)) := by simp [u32s, List.getD, h]

theorem u32s_one (l : List Nat) : ∀ u ∈ u32s l, u.oneCell' = true := by
  intro u hu
  obtain ⟨_, _, rfl⟩ := List.mem_map.1 hu
  rfl
/-- The eight numbers. -/
structure S8 where
  a : Nat
  b : Nat
  c : Nat
  d : Nat
  e : Nat
  f : Nat
  g : Nat
  h : Nat
def ch (e f g : Nat) : Nat := (e &&& f) ^^^ ((4294967295 - e) &&& g)
def maj (a b c : Nat) : Nat := (a &&& b) ^^^ (a &&& c) ^^^ (b &&& c)
def tt (s : S8) (x k : Nat) : Nat := (s.h + Sig1 s.e + ch s.e s.f s.g + x + k) % 4294967296
/-- One round. -/
def rnd (x k : Nat) (s : S8) : S8 := ⟨(tt s x k + Sig0 s.a + maj s.a s.b s.c) % 4294967296, s.a, s.b, s.c, (s.d + tt s x k) % 4294967296, s.e, s.f, s.g⟩
/-- So many rounds. -/
def rnds (X K : List Nat) (s : S8) : Nat → S8
  | 0 => s
  | i + 1 => rnd (X.getD i 0) (K.getD i 0) (rnds X K s i)
def S8.ok (s : S8) : Prop := s.a < 4294967296 ∧ s.b < 4294967296 ∧ s.c < 4294967296 ∧ s.d < 4294967296 ∧ s.e < 4294967296 ∧ s.f < 4294967296 ∧ s.g < 4294967296 ∧ s.h < 4294967296
theorem rnd_ok {x k : Nat} {s : S8} (h : s.ok) : (rnd x k s).ok := by
  obtain ⟨h1, h2, h3, h4, h5, h6, h7, h8⟩ := h
  exact ⟨Nat.mod_lt _ (by decide), h1, h2, h3, Nat.mod_lt _ (by decide), h5, h6, h7⟩
theorem rnds_ok {X K : List Nat} {s : S8} (h : s.ok) : ∀ i, (rnds X K s i).ok
  | 0 => h
  | i + 1 => rnd_ok (rnds_ok h i)
def S8.vals (s : S8) : Array Value := #[.int .u32 (s.a : Int), .int .u32 (s.b : Int), .int .u32 (s.c : Int), .int .u32 (s.d : Int), .int .u32 (s.e : Int), .int .u32 (s.f : Int), .int .u32 (s.g : Int), .int .u32 (s.h : Int)]

theorem chI {e f g : Nat} (he : e < 4294967296) (hf : f < 4294967296) (hg : g < 4294967296) :
    bits BinOp.xor IntKind.u32 (bits BinOp.and IntKind.u32 (e : Int) (f : Int)) (bits BinOp.and IntKind.u32 (bits BinOp.xor IntKind.u32 IntKind.u32.max (e : Int)) (g : Int)) = (ch e f g : Int) := by
  have hn : bits BinOp.xor IntKind.u32 IntKind.u32.max (e : Int) = ((4294967295 - e : Nat) : Int) := by
    show IntKind.u32.wrap ((BitVec.ofInt 32 IntKind.u32.max ^^^ BitVec.ofInt 32 (e : Int)).toNat : Int) = _
    have h1 : BitVec.ofInt 32 IntKind.u32.max = BitVec.allOnes 32 := by decide
    rw [h1, BitVec.allOnes_xor, BitVec.toNat_not, ofInt_u32 e he, IntKind.wrap_u32]
    omega
  rw [hn, u32_and_nat _ _ he hf, u32_and_nat _ _ (by omega) hg, u32_xor_nat _ _ (and_lt he) (and_lt (by omega))]
  rfl
theorem majI {a b c : Nat} (ha : a < 4294967296) (hb : b < 4294967296) (hc : c < 4294967296) :
    bits BinOp.xor IntKind.u32 (bits BinOp.xor IntKind.u32 (bits BinOp.and IntKind.u32 (a : Int) (b : Int)) (bits BinOp.and IntKind.u32 (a : Int) (c : Int))) (bits BinOp.and IntKind.u32 (b : Int) (c : Int)) = (maj a b c : Int) := by
  rw [u32_and_nat _ _ ha hb, u32_and_nat _ _ ha hc, u32_and_nat _ _ hb hc, u32_xor_nat _ _ (and_lt ha) (and_lt ha), u32_xor_nat _ _ (xor_lt (and_lt ha) (and_lt ha)) (and_lt hb)]
  rfl
theorem val_u32 {a b : Int} (h : a = b) : Value.int .u32 a = Value.int .u32 b := by rw [h]

def RndRel (w : World) (X K : List Nat) (s : S8) (va vb vc vd ve vf vg vh u : Value) (wr : World) : Prop :=
  ∃ (i : Nat) (m : Nat), u = .int .i64 (i : Int) ∧ i ≤ 64 ∧ wr = w.drewN m ∧ va = .int .u32 ((rnds X K s i).a : Int) ∧ vb = .int .u32 ((rnds X K s i).b : Int) ∧ vc = .int .u32 ((rnds X K s i).c : Int) ∧ vd = .int .u32 ((rnds X K s i).d : Int) ∧
    ve = .int .u32 ((rnds X K s i).e : Int) ∧ vf = .int .u32 ((rnds X K s i).f : Int) ∧ vg = .int .u32 ((rnds X K s i).g : Int) ∧ vh = .int .u32 ((rnds X K s i).h : Int)

def RndPost (w : World) (S : S8) (e : Ending) (w' : World) : Prop := e = .returned (.agg S.vals) ∧ Below w.heap.size w w'
theorem big_1q (x : Nat) (w : World) (m : Nat) (hx : x < 4294967296) : Calls Tryz.prog 191 #[.int .u32 (x : Int), .int .i64 6, .int .i64 11, .int .i64 25] (w.drewN m) fun e w' => e = .returned (.int .u32 (Sig1 x : Int)) ∧ ∃ n, w' = w.drewN n :=
  (big_1 x _ hx).mono fun _ _ h => ⟨h.1, m, h.2.symm⟩

set_option maxRecDepth 100000 in
set_option maxHeartbeats 2000000 in
theorem rounds_any (w : World) (s : S8) (hs : s.ok) (X K : List Nat) (hX : X.length = 64) (hK : K.length = 64) (hkc : ∀ i, i < 64 → w.cell? ⟨4, i, none⟩ = some (.int .u32 ((K.getD i 0 : Nat) : Int))) :
    Calls Tryz.prog 185 #[.agg s.vals, .agg (u32s X).toArray] w (RndPost w (rnds X K s 64)) := by
  have hok := fun i => rnds_ok (X := X) (K := K) hs i
  obtain ⟨w3, hw3⟩ : ∃ w3, w3 = ((w.alloc (.cells s.vals 151)).alloc (.cells (u32s X).toArray 199)).alloc (.cells #[.int .u32 0, .int .u32 0, .int .u32 0, .int .u32 0, .int .u32 0, .int .u32 0, .int .u32 0, .int .u32 0] 151) := ⟨_, rfl⟩
  have hgk : 4 < w.heap.size := World.block_lt_of_cell? w _ (hkc 0 (by decide))
  have hB : Below w.heap.size w w3 := by
    rw [hw3]
    exact (((Below.refl _ _).alloc (Nat.le_refl _) _).alloc (by simp) _).alloc (by simp; omega) _
  have kc : ∀ i, i < 64 → w3.cell? ⟨4, i, none⟩ = some (.int .u32 ((K.getD i 0 : Nat) : Int)) := fun i hi => (hB.cell (p := ⟨4, i, none⟩) hgk).trans (hkc i hi)
  have xc : ∀ i, i < 64 → w3.cell? ⟨w.heap.size + 1, i, none⟩ = some (.int .u32 ((X.getD i 0 : Nat) : Int)) := by
    intro i hi
    rw [hw3, World.cell?_alloc_past _ _ _ (by simp)]
    have hh := heap_alloc_new (w.alloc (.cells s.vals 151)) (.cells (u32s X).toArray 199)
    rw [World.size_alloc] at hh
    rw [cell_of_row _ _ i _ _ _ hh]
    simpa using u32s_get X i (by omega)
  have zc : w3.heap[w.heap.size + 1 + 1]? = some (.cells #[.int .u32 0, .int .u32 0, .int .u32 0, .int .u32 0, .int .u32 0, .int .u32 0, .int .u32 0, .int .u32 0] 151 (0, 0)) := by
    have hh := heap_alloc_new ((w.alloc (.cells s.vals 151)).alloc (.cells (u32s X).toArray 199)) (.cells #[.int .u32 0, .int .u32 0, .int .u32 0, .int .u32 0, .int .u32 0, .int .u32 0, .int .u32 0, .int .u32 0] 151)
    rw [hw3]
    simpa using hh
  have R0 : rnds X K s 0 = s := rfl
  obtain ⟨S64, h64s⟩ : ∃ S, S = rnds X K s 64 := ⟨_, rfl⟩
  rw [← h64s]
  have HS := Lib.hid h64s
  clear h64s
  have HW := Lib.hid hw3
  have HK := Lib.hid kc
  have HX := Lib.hid xc
  have HZ := Lib.hid zc
  have HO := Lib.hid hok
  clear hw3 kc xc zc hok hkc hX hK
  obtain ⟨a, b, c, d, e0, f, g, h⟩ := s
  unfold S8.vals at HW ⊢
  dsimp only at HW ⊢
  go_enter Tryz.func185, Tryz.ntmps185
  go_wp2
  go_quiet (fail)
  go_wp2
  rw [← HW.out]
  go_loopw [5, 6, 7, 8, 9, 10, 11, 12, 33] (fun va vb vc vd ve vf vg vh u wr => RndRel w3 X K ⟨a, b, c, d, e0, f, g, h⟩ va vb vc vd ve vf vg vh u wr) (fun _ _ _ _ _ _ _ _ u _ => 64 - (intOf u).toNat)
  case atStart => exact ⟨0, _, rfl, Nat.zero_le _, rfl, rfl, rfl, rfl, rfl, rfl, rfl, rfl, rfl⟩
  case round =>
    obtain ⟨i, m, rfl, hi, hwr, rfl, rfl, rfl, rfl, rfl, rfl, rfl, rfl⟩ := hrel
    have o := HO.out i
    by_cases h64 : i < 64
    · have hk1 : wr.cell? ⟨4, i, none⟩ = some (.int .u32 ((K.getD i 0 : Nat) : Int)) := by rw [hwr]; simpa using HK.out i h64
      have hx1 : wr.cell? ⟨w.heap.size + 1, i, none⟩ = some (.int .u32 ((X.getD i 0 : Nat) : Int)) := by rw [hwr]; simpa using HX.out i h64
      have HR := Lib.hid hwr
      clear hwr
      have hn : rnds X K ⟨a, b, c, d, e0, f, g, h⟩ (i + 1) = rnd (X.getD i 0) (K.getD i 0) (rnds X K ⟨a, b, c, d, e0, f, g, h⟩ i) := rfl
      have HN := Lib.hid hn
      clear hn R0
      generalize rnds X K ⟨a, b, c, d, e0, f, g, h⟩ i = S at *
      generalize X.getD i 0 = x at *
      generalize K.getD i 0 = k at *
      obtain ⟨a1, b1, c1, d1, e1, f1, g1, h1⟩ := S
      obtain ⟨o1, o2, o3, o4, o5, o6, o7, o8⟩ := o
      dsimp only at *
      go_wp2
      go_quiet ((go_at_call 191; exact big_1q e1 wr _ o5))
      go_wp2_with (go_at_call 191; refine (big_0 a1 _ o1).mono ?_; rintro e w' ⟨rfl, rfl⟩)
      go_roundw
      case rel =>
        rw [chI o5 o6 o7, majI o1 o2 o3]
        refine ⟨i + 1, _, by go_num, by omega, (by rw [HR.out, World.drewN_drewN]), ?_, ?_, ?_, ?_, ?_, ?_, ?_, ?_⟩
        all_goals (rw [HN.out]; first | rfl | (refine val_u32 ?_; simp only [rnd, tt]; omega))
      case measure => simp [intOf]; omega
    · obtain rfl : i = 64 := by omega
      have HR := Lib.hid hwr
      clear hwr R0
      rw [← HS.out]
      obtain ⟨a1, b1, c1, d1, e1, f1, g1, h1⟩ := S64
      dsimp only
      have zr : wr.heap[w.heap.size + 1 + 1]? = some (.cells #[.int .u32 0, .int .u32 0, .int .u32 0, .int .u32 0, .int .u32 0, .int .u32 0, .int .u32 0, .int .u32 0] 151 (0, 0)) := by rw [HR.out]; exact HZ.out
      have hBr : Below w.heap.size w wr := by rw [HR.out]; exact below_drewN hB m
      have ZR := Lib.hid zr
      clear zr
      go_wp2_with (refine wpList_store_all rfl 151 (.tmp 4) (.tmp 93) rfl (w.heap.size + 1 + 1) 151 _ #[.int .u32 (a1 : Int), .int .u32 (b1 : Int), .int .u32 (c1 : Int), .int .u32 (d1 : Int), .int .u32 (e1 : Int), .int .u32 (f1 : Int), .int .u32 (g1 : Int), .int .u32 (h1 : Int)] rfl rfl ZR.out (by kernel_rfl) rfl (all_oneCell_toArray (u32s_one [a1, b1, c1, d1, e1, f1, g1, h1])) ?_)
      refine bodyPost_ret (results_cell_row rfl _ _ (w.heap.size + 1 + 1) 151 _ (0, 0) _ rfl (setRow_heap wr _ _ _ _ (0, 0) ZR.out) Tryz.underlying151 rfl (by kernel_rfl)) rfl ?_
      exact ⟨rfl, below_setRow hBr (by omega) _⟩
end Go.Proofs.YtnfobnnbeefeeaaGreatDoor.Sm
/- A region that draws its order: a head of operations that only read (calls may draw), then a tail in forced order. -/
namespace Go.Proofs.YtnfobnnbeefeeaaGreatDoor.Sm
open Go
section
variable {P : Program} {ops : Array Oper} {C : World → Prop}

/-- The operations of these numbers, one behind the other. -/
def quietAlong (P : Program) (ops : Array Oper) (C : World → Prop) (Q : Act → Prop) : List Nat → Act → Prop
  | [], a => Q a
  | i :: l, a => qOp P ops C i (quietAlong P ops C Q l) a

theorem quietAlong_of {Q : Act → Prop} : ∀ (l : List Oper) (k : Nat) (a : Act), (∀ j, j < l.length → l[j]? = ops[k + j]?) → wpQuiet P ops C Q l a → quietAlong P ops C Q (List.range' k l.length) a
  | [], _, _, _, h => h
  | o :: l, k, a, hl, h => by
    have h0 : ops[k]? = some o := by simpa using (hl 0 (by simp)).symm
    have h1 : qOp P ops C k (wpQuiet P ops C Q l) a := by unfold qOp; simp only [h0]; exact h
    exact qOp_mono (fun a' h' => quietAlong_of l (k + 1) a' (fun j hj => by have := hl (j + 1) (by simp; omega); simpa [Nat.add_assoc, Nat.add_comm 1 j] using this) h') h1

/-- One of them is taken ahead of those that stand before it, if it is apart from them. -/
theorem quietAlong_ahead {Q : Act → Prop} (hs : Region.noSelect ops = true) {i : Nat} {oi : Oper} (hi : ops[i]? = some oi) : ∀ (l : List Nat) (a : Act), l.Nodup → i ∈ l →
    (∀ k ∈ l, ∃ ok, ops[k]? = some ok ∧ (k < i → ok.apart ops oi = true)) → l.Pairwise (· < ·) → quietAlong P ops C Q l a → qOp P ops C i (quietAlong P ops C Q (l.erase i)) a
  | [], _, _, hm, _, _, _ => by cases hm
  | k :: l, a, hnd, hm, hap, hp, h => by
    by_cases hk : k = i
    · subst hk
      rw [List.erase_cons_head]
      exact h
    · have hml : i ∈ l := by
        cases hm with
        | head => exact absurd rfl hk
        | tail _ h' => exact h'
      obtain ⟨ok, hok, hka⟩ := hap k (by simp)
      have hki : k < i := (List.pairwise_cons.1 hp).1 i hml
      obtain ⟨v, hy, hK⟩ := yieldsIn_of_qOp hok h
      have ih := quietAlong_ahead hs hi l _ (List.nodup_cons.1 hnd).2 hml (fun k' hk' => hap k' (List.mem_cons_of_mem _ hk')) (List.pairwise_cons.1 hp).2 hK
      have h2 := qOp_put hi (hka hki) (fun cs b => Region.noSelect_spec hs k ok cs b hok) (fun cs b => Region.noSelect_spec hs i oi cs b hi) hy ih
      rw [List.erase_cons_tail (by simpa using hk)]
      exact qOp_mono (fun a' h' => h'.1.qOp hok h'.2) h2

/-- Each of the first n waits for earlier ones alone; and of two of them the later one waits for the other, or they are apart. -/
def headOk (ops : Array Oper) (n : Nat) : Bool :=
  (List.range n).all fun i => match ops[i]? with
    | none => false
    | some oi => (oi.after.all fun e => !Region.binds .any e || decide (e.on < i)) && (List.range i).all fun k => (oi.after.any fun e => Region.binds .any e && e.on == k) || (match ops[k]? with | some ok => ok.apart ops oi | none => false)
def listedTo (m n : Nat) : Array Bool := ((List.range m).map (fun j => decide (j < n))).toArray
def tailOk (ops : Array Oper) (n : Nat) : Bool :=
  Region.noSelect ops && decide (n < ops.size) && Region.sinkB .any ops n && Region.chainB .any ops n && headOk ops n && Region.seqB .any ops (ops.size - n) n (listedTo ops.size n)

theorem headOk_spec {n i : Nat} (h : headOk ops n = true) (hi : i < n) : ∃ oi, ops[i]? = some oi ∧ (∀ e ∈ oi.after, Region.binds .any e = true → e.on < i) ∧
    ∀ k, k < i → (∃ e ∈ oi.after, Region.binds .any e = true ∧ e.on = k) ∨ ∃ ok, ops[k]? = some ok ∧ ok.apart ops oi = true := by
  have h1 := List.all_eq_true.1 h i (List.mem_range.2 hi)
  split at h1
  · cases h1
  · rename_i oi hoi
    simp only [Bool.and_eq_true] at h1
    refine ⟨oi, hoi, fun e he hb => ?_, fun k hk => ?_⟩
    · have := Array.all_eq_true'.1 h1.1 e he
      simpa [hb] using this
    · have := List.all_eq_true.1 h1.2 k (List.mem_range.2 hk)
      simp only [Bool.or_eq_true] at this
      rcases this with h2 | h2
      · obtain ⟨e, he, hb⟩ := Array.any_eq_true'.1 h2
        simp only [Bool.and_eq_true, beq_iff_eq] at hb
        exact .inl ⟨e, he, hb.1, hb.2⟩
      · split at h2
        · rename_i ok hok; exact .inr ⟨ok, hok, h2⟩
        · cases h2

theorem head_then {Q : Act → Prop} {Q' : Exit → Act → World → Prop} {n g : Nat} (hs : Region.noSelect ops = true) (hn : n < ops.size) (hsk : Region.sinkB .any ops n = true) (hch : Region.chainB .any ops n = true) (hh : headOk ops n = true)
    (hQ : ∀ a w, C w → Q a → wpAny P .any ops Q' g (listedTo ops.size n) a w) :
    ∀ (f : Nat) (l : List Nat) (listed : Array Bool) (a : Act) (w : World), l.length = f → C w → HeadInv .any ops n listed → l.Pairwise (· < ·) → (∀ k ∈ l, k < n) →
      (∀ k, k < n → (listed.getD k true = false ↔ k ∈ l)) → quietAlong P ops C Q l a → wpAny P .any ops Q' (f + g) listed a w := by
  intro f
  induction f with
  | zero =>
    intro l listed a w hf hw inv _ _ hl h
    have hl0 : l = [] := List.length_eq_zero_iff.1 hf
    subst hl0
    have he : listed = listedTo ops.size n := by
      apply Array.ext
      · simp [inv.size, listedTo]
      · intro j h1 h2
        have hb : listed[j] = listed.getD j true := by simp [h1]
        have hjs : j < ops.size := by rw [← inv.size]; exact h1
        rw [hb]
        have e2 : (listedTo ops.size n)[j] = decide (j < n) := by simp [listedTo]
        rw [e2]
        by_cases hj : j < n
        · have := hl j hj
          simp only [List.not_mem_nil, iff_false, Bool.not_eq_false] at this
          simp [this, hj]
        · rw [inv.tail j (by omega) hjs]; simp [hj]
    rw [he, Nat.zero_add]
    exact hQ a w hw h
  | succ f ih =>
    intro l listed a w hf hw inv hp hln hl h
    have hnd : l.Nodup := hp.imp (fun h => Nat.ne_of_lt h)
    rw [show f + 1 + g = (f + g) + 1 by omega]
    obtain ⟨k0, l0, rfl⟩ : ∃ k0 l0, l = k0 :: l0 := by
      cases l with
      | nil => cases hf
      | cons k0 l0 => exact ⟨k0, l0, rfl⟩
    have hk0 : k0 < n := hln k0 (by simp)
    have hun0 := (hl k0 hk0).2 (by simp)
    refine ⟨fun h0 => ?_, fun i hi => ?_⟩
    · exfalso
      obtain ⟨o0, ho0, haf, _⟩ := headOk_spec hh hk0
      have : k0 ∈ Region.ready .any ops listed := mem_ready.2 ⟨hun0, o0, ho0, fun e he hb => by
        have hlt := haf e he hb
        have hon : e.on ∉ k0 :: l0 := by
          intro hmem
          rcases List.mem_cons.1 hmem with h1 | h1
          · omega
          · have := (List.pairwise_cons.1 hp).1 _ h1; omega
        have h2 := mt (hl e.on (by omega)).1 hon
        have hsz : e.on < listed.size := by rw [inv.size]; omega
        simp [hsz] at h2 ⊢
        exact h2⟩
      rw [h0] at this
      cases this
    · have hin : i < n := by
        rcases Nat.lt_or_ge i n with h' | h'
        · exact h'
        · exact absurd hi (tail_waits hsk hch hn inv _ k0 rfl hk0 hun0 i h')
      obtain ⟨hiu, oi, hoi, hall⟩ := mem_ready.1 hi
      have him := (hl i hin).1 hiu
      have hq := quietAlong_ahead hs hoi (k0 :: l0) a hnd him (fun k hk => by
        have hkn := hln k hk
        obtain ⟨ok, hok, _, _⟩ := headOk_spec hh hkn
        refine ⟨ok, hok, fun hki => ?_⟩
        obtain ⟨oi', hoi', _, hw2⟩ := headOk_spec hh hin
        obtain rfl : oi' = oi := Option.some.inj (hoi'.symm.trans hoi)
        rcases hw2 k hki with ⟨e, he, hb, hon⟩ | ⟨ok', hok', hap⟩
        · have h1 := hall e he hb
          have h2 := (hl k hkn).2 hk
          rw [hon, getD_both h2] at h1
          cases h1
        · obtain rfl : ok' = ok := Option.some.inj (hok'.symm.trans hok)
          exact hap) hp h
      refine wpOp_of_qOp hw (fun a' w' hw' h' => ih ((k0 :: l0).erase i) (listed.setIfInBounds i true) a' w' ?_ hw' (inv.set hi hin) (hp.sublist List.erase_sublist) (fun k hk => hln k (List.mem_of_mem_erase hk)) ?_ h') hq
      · rw [List.length_erase_of_mem him, hf]; rfl
      · intro k hk
        by_cases hki : i = k
        · subst hki
          have hsz : i < listed.size := by rw [inv.size]; omega
          constructor
          · intro h1
            simp [hsz] at h1
          · intro h1
            exact absurd h1 (List.Nodup.not_mem_erase hnd)
        · rw [getD_set_ne true hki, hl k hk, List.Nodup.mem_erase_iff hnd]
          exact ⟨fun h1 => ⟨Ne.symm hki, h1⟩, fun h1 => h1.2⟩

theorem wp_region_quiet_tail {id : Nat} {Q : Exit → Act → World → Prop} {a : Act} {w : World} {l : List Oper} (n : Nat) (hm : P.follows .mixedOrders = true) (hB : tailOk l.toArray n = true)
    (h : wpQuiet P l.toArray (fun w' => ∃ m, w' = w.drewN m) (fun a' => ∀ w', (∃ m, w' = w.drewN m) → wpList P l.toArray Q (l.drop n) a' w') (l.take n) a) : (Code.region id l.toArray true).wp P Q a w := by
  simp only [tailOk, Bool.and_eq_true, decide_eq_true_eq] at hB
  obtain ⟨⟨⟨⟨⟨hs, hn⟩, hsk⟩, hch⟩, hh⟩, hseq⟩ := hB
  have hn' : n < l.length := by simpa using hn
  have htl : (l.take n).length = n := by simp; omega
  have hdl : (l.drop n).length = l.toArray.size - n := by simp
  have inv0 : HeadInv .any l.toArray n (Array.replicate l.toArray.size false) :=
    ⟨by simp, fun j oj _ hl => (by rw [getD_replicate_false] at hl; cases hl), fun t _ ht => getD_in (by simpa using ht) (getD_replicate_false _ _)⟩
  have hq := quietAlong_of (ops := l.toArray) (l.take n) 0 a (fun j hj => by
    have hj' : j < n := by rw [htl] at hj; exact hj
    simp [hj']) h
  rw [htl] at hq
  refine wp_region_any hm ?_
  have := head_then (C := fun w' => ∃ m, w' = w.drewN m) (Q' := Q) (g := l.toArray.size - n) hs hn hsk hch hh (fun a' w' hw' hL => by
    have := wpAny_of_seq (md := .any) (Q' := Q) (l.drop n) n (listedTo l.toArray.size n) a' w' (fun j => by simp [List.getElem?_drop]) (by rw [hdl]; exact hseq) (hL w' hw')
    rwa [hdl] at this) n (List.range' 0 n) (Array.replicate l.toArray.size false) a _ (by simp) ⟨1, rfl⟩ inv0 (by simpa using (List.pairwise_lt_range' (s := 0) (n := n) (step := 1))) (fun k hk => by simp at hk; omega)
    (fun k hk => ⟨fun _ => by simp; omega, fun _ => by have : k < l.length := by omega
                                                       simp [this]⟩) hq
  rw [show n + (l.toArray.size - n) = l.toArray.size by omega] at this
  exact this
/-! Operation 0 only moves a slot that is not written here: it may come up anywhere ahead of what waits for it, also within the tail. -/
def sinkF (ops : Array Oper) (n : Nat) : Bool :=
  (List.range n).all fun i => i == 0 || (List.range (n + 1)).any fun j => decide (i < j) && Region.waitsFor .any ops j i
def movesFirst (ops : Array Oper) : Bool :=
  match ops[0]? with
  | some o => o.guard.isNone && (match o.op with | .move _ => true | _ => false) && (o.after.all fun e => !Region.binds .any e) &&
      (List.range ops.size).all fun j => j == 0 || Region.waitsFor .any ops j 0 || (match ops[j]? with | some oj => o.apart ops oj | none => true)
  | none => false
def tailOkF (ops : Array Oper) (n : Nat) : Bool :=
  Region.noSelect ops && decide (n < ops.size) && decide (0 < n) && sinkF ops n && Region.chainB .any ops n && headOk ops n && Region.seqB .any ops (ops.size - n) n (listedTo ops.size n) && movesFirst ops

theorem tail_waitsF {n : Nat} {listed : Array Bool} (hs : sinkF ops n = true) (hc : Region.chainB .any ops n = true) (hn : n < ops.size) (inv : HeadInv .any ops n listed) (h0 : listed.getD 0 true = true) :
    ∀ (d i : Nat), n - i = d → i < n → listed.getD i true = false → ∀ t, n ≤ t → t ∉ Region.ready .any ops listed := by
  intro d
  induction d using Nat.strongRecOn with
  | _ d ih =>
    intro i hd hi hun t ht hr
    obtain ⟨_, ot, hot, hall⟩ := mem_ready.1 hr
    have htlt : t < ops.size := (Array.getElem?_eq_some_iff.1 hot).1
    by_cases htn : t = n
    · subst htn
      have h1 := List.all_eq_true.1 hs i (List.mem_range.2 hi)
      have hi0 : i ≠ 0 := fun h => by rw [h, h0] at hun; cases hun
      simp only [Bool.or_eq_true, beq_iff_eq, hi0, false_or] at h1
      obtain ⟨j, hj, hj2⟩ := List.any_eq_true.1 h1
      simp only [Bool.and_eq_true, decide_eq_true_eq] at hj2
      obtain ⟨oj, hoj, e, he, hb, hon⟩ := Region.waitsFor_spec hj2.2
      have hjle : j ≤ t := by have := List.mem_range.1 hj; omega
      by_cases hjt : j = t
      · subst hjt
        have : oj = ot := Option.some.inj (hoj.symm.trans hot)
        subst this
        have h2 := hall e he hb
        rw [hon, getD_both hun] at h2
        cases h2
      · cases hl : listed.getD j false with
        | true =>
          have h2 := inv.closed j oj hoj hl e he hb
          rw [hon, getD_both hun] at h2
          cases h2
        | false =>
          have hjs : j < listed.size := by rw [inv.size]; omega
          exact ih (t - j) (by omega) j rfl (by omega) (getD_in hjs hl) t (Nat.le_refl _) hr
    · have h1 := List.all_eq_true.1 hc t (List.mem_range.2 htlt)
      simp only [Bool.or_eq_true, decide_eq_true_eq] at h1
      rcases h1 with h1 | h1
      · omega
      · obtain ⟨o', ho', e, he, hb, hon⟩ := Region.waitsFor_spec h1
        have : o' = ot := Option.some.inj (ho'.symm.trans hot)
        subst this
        have h2 := hall e he hb
        rw [hon, getD_both (inv.tail (t - 1) (by omega) (by omega))] at h2
        cases h2

theorem head_thenF {I : Array Bool → Prop} {Q : Act → Prop} {Q' : Exit → Act → World → Prop} {n g : Nat} (hs : Region.noSelect ops = true) (hn : n < ops.size) (htw : ∀ listed, HeadInv .any ops n listed → I listed → ∀ (d i : Nat), n - i = d → i < n → listed.getD i true = false → ∀ t, n ≤ t → t ∉ Region.ready .any ops listed) (hI : ∀ (listed : Array Bool) (i : Nat), I listed → I (listed.setIfInBounds i true)) (hh : headOk ops n = true)
    (hQ : ∀ a w, C w → Q a → wpAny P .any ops Q' g (listedTo ops.size n) a w) :
    ∀ (f : Nat) (l : List Nat) (listed : Array Bool) (a : Act) (w : World), l.length = f → C w → HeadInv .any ops n listed → I listed → l.Pairwise (· < ·) → (∀ k ∈ l, k < n) →
      (∀ k, k < n → (listed.getD k true = false ↔ k ∈ l)) → quietAlong P ops C Q l a → wpAny P .any ops Q' (f + g) listed a w := by
  intro f
  induction f with
  | zero =>
    intro l listed a w hf hw inv _ _ _ hl h
    have hl0 : l = [] := List.length_eq_zero_iff.1 hf
    subst hl0
    have he : listed = listedTo ops.size n := by
      apply Array.ext
      · simp [inv.size, listedTo]
      · intro j h1 h2
        have hb : listed[j] = listed.getD j true := by simp [h1]
        have hjs : j < ops.size := by rw [← inv.size]; exact h1
        rw [hb]
        have e2 : (listedTo ops.size n)[j] = decide (j < n) := by simp [listedTo]
        rw [e2]
        by_cases hj : j < n
        · have := hl j hj
          simp only [List.not_mem_nil, iff_false, Bool.not_eq_false] at this
          simp [this, hj]
        · rw [inv.tail j (by omega) hjs]; simp [hj]
    rw [he, Nat.zero_add]
    exact hQ a w hw h
  | succ f ih =>
    intro l listed a w hf hw inv hil hp hln hl h
    have hnd : l.Nodup := hp.imp (fun h => Nat.ne_of_lt h)
    rw [show f + 1 + g = (f + g) + 1 by omega]
    obtain ⟨k0, l0, rfl⟩ : ∃ k0 l0, l = k0 :: l0 := by
      cases l with
      | nil => cases hf
      | cons k0 l0 => exact ⟨k0, l0, rfl⟩
    have hk0 : k0 < n := hln k0 (by simp)
    have hun0 := (hl k0 hk0).2 (by simp)
    refine ⟨fun h0 => ?_, fun i hi => ?_⟩
    · exfalso
      obtain ⟨o0, ho0, haf, _⟩ := headOk_spec hh hk0
      have : k0 ∈ Region.ready .any ops listed := mem_ready.2 ⟨hun0, o0, ho0, fun e he hb => by
        have hlt := haf e he hb
        have hon : e.on ∉ k0 :: l0 := by
          intro hmem
          rcases List.mem_cons.1 hmem with h1 | h1
          · omega
          · have := (List.pairwise_cons.1 hp).1 _ h1; omega
        have h2 := mt (hl e.on (by omega)).1 hon
        have hsz : e.on < listed.size := by rw [inv.size]; omega
        simp [hsz] at h2 ⊢
        exact h2⟩
      rw [h0] at this
      cases this
    · have hin : i < n := by
        rcases Nat.lt_or_ge i n with h' | h'
        · exact h'
        · exact absurd hi (htw listed inv hil _ k0 rfl hk0 hun0 i h')
      obtain ⟨hiu, oi, hoi, hall⟩ := mem_ready.1 hi
      have him := (hl i hin).1 hiu
      have hq := quietAlong_ahead hs hoi (k0 :: l0) a hnd him (fun k hk => by
        have hkn := hln k hk
        obtain ⟨ok, hok, _, _⟩ := headOk_spec hh hkn
        refine ⟨ok, hok, fun hki => ?_⟩
        obtain ⟨oi', hoi', _, hw2⟩ := headOk_spec hh hin
        obtain rfl : oi' = oi := Option.some.inj (hoi'.symm.trans hoi)
        rcases hw2 k hki with ⟨e, he, hb, hon⟩ | ⟨ok', hok', hap⟩
        · have h1 := hall e he hb
          have h2 := (hl k hkn).2 hk
          rw [hon, getD_both h2] at h1
          cases h1
        · obtain rfl : ok' = ok := Option.some.inj (hok'.symm.trans hok)
          exact hap) hp h
      refine wpOp_of_qOp hw (fun a' w' hw' h' => ih ((k0 :: l0).erase i) (listed.setIfInBounds i true) a' w' ?_ hw' (inv.set hi hin) (hI _ _ hil) (hp.sublist List.erase_sublist) (fun k hk => hln k (List.mem_of_mem_erase hk)) ?_ h') hq
      · rw [List.length_erase_of_mem him, hf]; rfl
      · intro k hk
        by_cases hki : i = k
        · subst hki
          have hsz : i < listed.size := by rw [inv.size]; omega
          constructor
          · intro h1
            simp [hsz] at h1
          · intro h1
            exact absurd h1 (List.Nodup.not_mem_erase hnd)
        · rw [getD_set_ne true hki, hl k hk, List.Nodup.mem_erase_iff hnd]
          exact ⟨fun h1 => ⟨Ne.symm hki, h1⟩, fun h1 => h1.2⟩


theorem wp_region_quiet_tail_f {id : Nat} {Q : Exit → Act → World → Prop} {a : Act} {w : World} {l : List Oper} (n : Nat) (hm : P.follows .mixedOrders = true) (hB : tailOkF l.toArray n = true)
    (h : wpQuiet P l.toArray (fun w' => ∃ m, w' = w.drewN m) (fun a' => ∀ w', (∃ m, w' = w.drewN m) → wpList P l.toArray (fun e a w => e = .normal ∧ Q .normal a w) (l.drop n) a' w') (l.take n) a) : (Code.region id l.toArray true).wp P Q a w := by
  simp only [tailOkF, Bool.and_eq_true, decide_eq_true_eq] at hB
  obtain ⟨⟨⟨⟨⟨⟨⟨hs, hn⟩, hn0⟩, hsk⟩, hch⟩, hh⟩, hseq⟩, hmv⟩ := hB
  have hn' : n < l.length := by simpa using hn
  obtain ⟨o0, rest, rfl⟩ : ∃ o0 rest, l = o0 :: rest := by
    cases l with
    | nil => simp at hn'
    | cons o0 rest => exact ⟨o0, rest, rfl⟩
  obtain ⟨k, rfl⟩ : ∃ k, n = k + 1 := ⟨n - 1, by omega⟩
  have ho0 : (o0 :: rest).toArray[0]? = some o0 := by simp
  simp only [movesFirst, ho0, Bool.and_eq_true] at hmv
  obtain ⟨⟨⟨hg, hx⟩, haf⟩, hfree⟩ := hmv
  obtain ⟨x, hox⟩ : ∃ x, o0.op = .move x := by
    split at hx
    · rename_i x hx'; exact ⟨x, hx'⟩
    · cases hx
  have hwant : ∀ y, Region.wanted o0 y = true := fun y => by
    unfold Region.wanted
    cases hgg : o0.guard with
    | none => rfl
    | some _ => rw [hgg] at hg; cases hg
  have hrun : ∀ (a : Act) (w : World), (execOp a.eval o0).run P w = .ok (.value (a.eval x)) w := fun a w => by
    have : execOp a.eval o0 = pure (.value (a.eval x)) := by
      unfold execOp
      rw [hox]
    rw [this]
    rfl
  simp only [List.take_succ_cons, List.drop_succ_cons] at h
  have h' : wpQuiet P (o0 :: rest).toArray (fun w' => ∃ m, w' = w.drewN m) (fun a' => ∀ w', (∃ m, w' = w.drewN m) → wpList P (o0 :: rest).toArray (fun e a w => e = .normal ∧ Q .normal a w) (rest.drop k) a' w') (rest.take k) (a.put o0.dst (a.eval x)) := by
    have h1 : o0.quiet P a (fun w' => ∃ m, w' = w.drewN m) (wpQuiet P (o0 :: rest).toArray (fun w' => ∃ m, w' = w.drewN m) (fun a' => ∀ w', (∃ m, w' = w.drewN m) → wpList P (o0 :: rest).toArray (fun e a w => e = .normal ∧ Q .normal a w) (rest.drop k) a' w') (rest.take k)) := by
      have h0 := h
      unfold wpQuiet at h0
      rw [hwant, if_pos rfl] at h0
      exact h0
    obtain ⟨v, hv, h2⟩ := h1
    have h3 := hv (w.drewN 1) ⟨1, rfl⟩
    unfold Oper.quietAt at h3
    rw [hrun] at h3
    rw [h3.2]
    exact h2
  refine Code.wp_mono (Q := fun e a w => e = .normal ∧ Q .normal a w) (fun e a w hq => by obtain ⟨rfl, hq⟩ := hq; exact hq) ?_
  refine wp_region_any hm ?_
  have hsz : (o0 :: rest).toArray.size = (k + ((o0 :: rest).toArray.size - (k + 1))) + 1 := by simp at hn' ⊢; omega
  have hz : ∀ j, (Array.replicate (o0 :: rest).toArray.size false).getD j false = false := fun j => getD_replicate_false _ _
  rw [show wpAny P .any (o0 :: rest).toArray (fun e a w => e = .normal ∧ Q .normal a w) (o0 :: rest).toArray.size = wpAny P .any (o0 :: rest).toArray (fun e a w => e = .normal ∧ Q .normal a w) ((k + ((o0 :: rest).toArray.size - (k + 1))) + 1) from congrArg _ hsz]
  have hsel : ∀ (j : Nat) (o : Oper) cs b, (o0 :: rest).toArray[j]? = some o → o.op ≠ .select cs b := fun j o cs b ho => Region.noSelect_spec hs j o cs b ho
  refine wpAny_first (i := 0) (v := a.eval x) ho0 hsel (fun c a w hq => absurd hq.1 (by intro h; cases h)) _ _ _ _ ?_ ?_ (.inl ⟨hwant _, fun w => hrun a w⟩) ?_
  · intro j oj hoj hj0 _ hno
    have hjs : j < (o0 :: rest).toArray.size := (Array.getElem?_eq_some_iff.1 hoj).1
    have h1 := List.all_eq_true.1 hfree j (List.mem_range.2 hjs)
    simp only [Bool.or_eq_true, beq_iff_eq, hj0, false_or, hoj] at h1
    rcases h1 with h1 | h1
    · obtain ⟨oj', hoj', e, he, hb, hon⟩ := Region.waitsFor_spec h1
      obtain rfl : oj' = oj := Option.some.inj (hoj'.symm.trans hoj)
      exact absurd hon (hno e he hb)
    · exact h1
  · refine mem_ready.2 ⟨getD_in (by simp) (hz 0), o0, ho0, fun e he hb => ?_⟩
    have h1 := Array.all_eq_true'.1 haf e he
    rw [hb] at h1
    cases h1
  · have htl : (rest.take k).length = k := by simp at hn' ⊢; omega
    have hdl : (rest.drop k).length = (o0 :: rest).toArray.size - (k + 1) := by simp
    have hq := quietAlong_of (ops := (o0 :: rest).toArray) (rest.take k) 1 _ (fun j hj => by
      have hj' : j < k := by rw [htl] at hj; exact hj
      rw [Nat.add_comm 1 j]
      simp [hj']) h'
    rw [htl] at hq
    have hsz0 : 0 < (Array.replicate (o0 :: rest).toArray.size false).size := by simp
    have inv0 : HeadInv .any (o0 :: rest).toArray (k + 1) ((Array.replicate (o0 :: rest).toArray.size false).setIfInBounds 0 true) := by
      refine HeadInv.set ⟨by simp, fun j oj _ hl => (by rw [hz] at hl; cases hl), fun t _ ht => getD_in (by simpa using ht) (hz _)⟩ (mem_ready.2 ⟨getD_in (by simp) (hz 0), o0, ho0, fun e he hb => ?_⟩) (by omega)
      have h1 := Array.all_eq_true'.1 haf e he
      rw [hb] at h1
      cases h1
    refine head_thenF (C := fun w' => ∃ m, w' = w.drewN m) (I := fun li => li.getD 0 true = true) hs hn (fun li inv h0 => tail_waitsF hsk hch hn inv h0) ?_ hh (fun a' w' hw' hL => by
      have := wpAny_of_seq (md := .any) (Q' := fun e a w => e = .normal ∧ Q .normal a w) (rest.drop k) (k + 1) (listedTo (o0 :: rest).toArray.size (k + 1)) a' w' (fun j => by simp [List.getElem?_drop]; rw [show k + 1 + j = (k + j) + 1 by omega, List.getElem?_cons_succ]) (by rw [hdl]; exact hseq) (hL w' hw')
      rwa [hdl] at this) k (List.range' 1 k) _ _ _ (by simp) ⟨1, rfl⟩ inv0 ?_ (by simpa using (List.pairwise_lt_range' (s := 1) (n := k) (step := 1))) (fun i hi => by simp at hi; omega) ?_ hq
    · intro li i h0
      by_cases hi : i = 0
      · subst hi
        by_cases hs0 : 0 < li.size
        · simp [hs0]
        · simp [show li.size = 0 by omega]
      · rw [getD_set_ne true hi]; exact h0
    · simp
    · intro i hi
      by_cases hi0 : i = 0
      · subst hi0
        simp
      · rw [getD_set_ne true (Ne.symm hi0)]
        have his : i < (o0 :: rest).length := by omega
        constructor
        · intro _; simp; omega
        · intro _; exact getD_in (by simpa using his) (hz i)
end
end Go.Proofs.YtnfobnnbeefeeaaGreatDoor.Sm
/- A block's 64 words. -/
namespace Go.Proofs.YtnfobnnbeefeeaaGreatDoor.Sm
open Go Go.RowKit
set_option linter.unusedVariables false

/-- A byte as a cell; bytes as cells. -/
def bv (b : UInt8) : Value := .int .u8 (b.toNat : Int)
def bvs (l : List UInt8) : List Value := l.map bv
theorem bvs_length (l : List UInt8) : (bvs l).length = l.length := by simp [bvs]
theorem u32s_length (l : List Nat) : (u32s l).length = l.length := by simp [u32s]

/-- A Hash's cells. -/
def hcells (G : List Nat) (B : List UInt8) (n : Nat) : List Value := u32s G ++ bvs B ++ [.int .u64 (n : Int)]
def HashAt (w : World) (b : Nat) (G : List Nat) (B : List UInt8) (n : Nat) : Prop :=
  G.length = 8 ∧ B.length = 64 ∧ w.heap[b]? = some (.cells (hcells G B n).toArray 154 (0, 0))
theorem HashAt.gained {w : World} {b : Nat} {G : List Nat} {B : List UInt8} {n : Nat} (h : HashAt w b G B n) (i : Nat) (hi : i < 8) : w.cell? ⟨b, i, none⟩ = some (.int .u32 ((G.getD i 0 : Nat) : Int)) := by
  obtain ⟨h1, h2, h3⟩ := h
  rw [cell_of_row w b i _ _ _ h3]
  have : i < G.length := by omega
  simp [hcells, List.getElem?_append, u32s, this, List.getD]
theorem HashAt.byte {w : World} {b : Nat} {G : List Nat} {B : List UInt8} {n : Nat} (h : HashAt w b G B n) (i : Nat) (hi : i < 64) : w.cell? ⟨b, 8 + i, none⟩ = some (.int .u8 ((B.getD i 0).toNat : Int)) := by
  obtain ⟨h1, h2, h3⟩ := h
  rw [cell_of_row w b (8 + i) _ _ _ h3]
  have : i < B.length := by omega
  simp [hcells, List.getElem?_append, u32s, bvs, this, h1, List.getD, bv]
theorem HashAt.count {w : World} {b : Nat} {G : List Nat} {B : List UInt8} {n : Nat} (h : HashAt w b G B n) : w.cell? ⟨b, 72, none⟩ = some (.int .u64 (n : Int)) := by
  obtain ⟨h1, h2, h3⟩ := h
  rw [cell_of_row w b 72 _ _ _ h3]
  simp [hcells, u32s, bvs, h1, h2]
theorem HashAt.lt {w : World} {b : Nat} {G : List Nat} {B : List UInt8} {n : Nat} (h : HashAt w b G B n) : b < w.heap.size := (Array.getElem?_eq_some_iff.1 h.2.2).1
theorem HashAt.below {w w' : World} {b : Nat} {G : List Nat} {B : List UInt8} {n : Nat} {C : Nat} (h : HashAt w b G B n) (hB : Below C w w') (hb : b < C) : HashAt w' b G B n := ⟨h.1, h.2.1, (hB.block b hb).trans h.2.2⟩

/-- Four bytes as a number, the highest first. -/
def w16 (B : List UInt8) (i : Nat) : Nat := (B.getD (4 * i) 0).toNat * 16777216 + (B.getD (4 * i + 1) 0).toNat * 65536 + (B.getD (4 * i + 2) 0).toNat * 256 + (B.getD (4 * i + 3) 0).toNat
def base16 (B : List UInt8) : List Nat := (List.range 16).map (w16 B)
def ex (l : List Nat) : List Nat := l ++ [(l.getD (l.length - 16) 0 + sig0 (l.getD (l.length - 15) 0) + l.getD (l.length - 7) 0 + sig1 (l.getD (l.length - 2) 0)) % 4294967296]
def exs (B : List UInt8) : Nat → List Nat
  | 0 => base16 B
  | i + 1 => ex (exs B i)
theorem exs_length (B : List UInt8) : ∀ i, (exs B i).length = 16 + i
  | 0 => by simp [exs, base16]
  | i + 1 => by simp [exs, ex, exs_length B i]; omega
theorem Tryz.len64 : Tryz.prog.arrayLen 152 = 64 := by kernel_rfl
theorem Tryz.info5 : (Tryz.prog.info? 5).map (fun i => (i.zero, i.size, i.bytes)) = some (some (.int .u8 0), 1, 1) := by kernel_rfl
/-- An array of 64 bytes, cut from a place on. -/
theorem slice64 (b o l : Nat) (x : Int) (hx : x = (l : Int)) (hl : l < 64) (k : IntKind) (w : World) :
    (Instr.sliceAt 152 (.pointer (some ⟨b, o, none⟩)) (some (.int k x)) none none).run Tryz.prog w = .ok (.slice (some ⟨b, o + l, none⟩) (64 - l) (64 - l)) w := by
  subst hx
  have h := run_sliceAt_array_l (P := Tryz.prog) w 152 ⟨b, o, none⟩ (by kernel_rfl) k (l : Int) (by omega) (by rw [Tryz.len64]; omega)
  obtain ⟨i0, hi, hz0, hz1, hz2⟩ := info_parts Tryz.info5
  have he : Tryz.prog.elem 152 = 5 := by kernel_rfl
  have hsz : (sizeOf 5).run Tryz.prog w = .ok 1 w := by simp [sizeOf, typeInfo, hi, hz1]
  rw [h, Tryz.len64, he, hsz]
  simp only [Result.andThen_ok, slicedAt, Int.toNat_natCast, Nat.mul_one]
  rw [if_neg (by omega), Addr.add_mid]

def Z64 : List Value := u32s (List.replicate 64 0)
theorem Z64_eq : Z64.toArray = #[.int .u32 0, .int .u32 0, .int .u32 0, .int .u32 0, .int .u32 0, .int .u32 0, .int .u32 0, .int .u32 0, .int .u32 0, .int .u32 0, .int .u32 0, .int .u32 0, .int .u32 0, .int .u32 0, .int .u32 0, .int .u32 0, .int .u32 0, .int .u32 0, .int .u32 0, .int .u32 0, .int .u32 0, .int .u32 0, .int .u32 0, .int .u32 0, .int .u32 0, .int .u32 0, .int .u32 0, .int .u32 0, .int .u32 0, .int .u32 0, .int .u32 0, .int .u32 0, .int .u32 0, .int .u32 0, .int .u32 0, .int .u32 0, .int .u32 0, .int .u32 0, .int .u32 0, .int .u32 0, .int .u32 0, .int .u32 0, .int .u32 0, .int .u32 0, .int .u32 0, .int .u32 0, .int .u32 0, .int .u32 0, .int .u32 0, .int .u32 0, .int .u32 0, .int .u32 0, .int .u32 0, .int .u32 0, .int .u32 0, .int .u32 0, .int .u32 0, .int .u32 0, .int .u32 0, .int .u32 0, .int .u32 0, .int .u32 0, .int .u32 0, .int .u32 0] := by kernel_rfl
def WdRel (w : World) (L : Nat → List Nat) (m : Nat) (u : Value) (wr : World) : Prop :=
  ∃ i : Nat, u = .int .i64 (i : Int) ∧ i ≤ m ∧ wr.heap[w.heap.size + 1]? = some (.cells (u32s (L i)).toArray 199 (0, 0)) ∧ wr.heap[w.heap.size]? = some (.cells Z64.toArray 199 (0, 0)) ∧ Below w.heap.size w wr ∧ wr.heap.size = w.heap.size + 1 + 1

def L1 (B : List UInt8) (i : Nat) : List Nat := (base16 B).take i ++ List.replicate (64 - i) 0
def L2 (B : List UInt8) (i : Nat) : List Nat := exs B i ++ List.replicate (48 - i) 0
theorem base16_length (B : List UInt8) : (base16 B).length = 16 := by simp [base16]
theorem L1_length (B : List UInt8) {i : Nat} (hi : i ≤ 16) : (L1 B i).length = 64 := by simp [L1, base16_length]; omega
theorem L2_length (B : List UInt8) {i : Nat} (hi : i ≤ 48) : (L2 B i).length = 64 := by simp [L2, exs_length]; omega
theorem L1_set (B : List UInt8) {i : Nat} (hi : i < 16) : (L1 B i).set i (w16 B i) = L1 B (i + 1) := by
  unfold L1
  have h1 : ((base16 B).take i).length = i := by simp [base16_length]; omega
  rw [List.set_append_right _ _ (by omega), h1, Nat.sub_self, show 64 - i = (64 - (i + 1)) + 1 by omega, List.replicate_succ, List.set_cons_zero,
    List.take_succ_eq_append_getElem (by rw [base16_length]; exact hi), List.append_assoc]
  simp [base16]
theorem L1_L2 (B : List UInt8) : L1 B 16 = L2 B 0 := by
  have : (base16 B).take 16 = base16 B := List.take_of_length_le (by rw [base16_length]; omega)
  simp [L1, L2, exs, this]
theorem w16_lt (B : List UInt8) (i : Nat) : w16 B i < 4294967296 := by
  unfold w16
  have h0 := (B.getD (4 * i) 0).toNat_lt
  have h1 := (B.getD (4 * i + 1) 0).toNat_lt
  have h2 := (B.getD (4 * i + 2) 0).toNat_lt
  have h3 := (B.getD (4 * i + 3) 0).toNat_lt
  omega
theorem u32s_set (l : List Nat) (i x : Nat) : (u32s l).set i (.int .u32 (x : Int)) = u32s (l.set i x) := by simp [u32s, List.map_set]

theorem exs_all (B : List UInt8) : ∀ i, ∀ x ∈ exs B i, x < 4294967296
  | 0, x, hx => by
    simp only [exs, base16, List.mem_map] at hx
    obtain ⟨k, _, rfl⟩ := hx
    exact w16_lt B k
  | i + 1, x, hx => by
    simp only [exs, ex, List.mem_append, List.mem_singleton] at hx
    rcases hx with hx | rfl
    · exact exs_all B i x hx
    · exact Nat.mod_lt _ (by decide)
theorem getD_lt {l : List Nat} (h : ∀ x ∈ l, x < 4294967296) (k : Nat) : l.getD k 0 < 4294967296 := by
  by_cases hk : k < l.length
  · simp only [List.getD, List.getElem?_eq_getElem hk, Option.getD_some]
    exact h _ (List.getElem_mem hk)
  · simp [List.getD, List.getElem?_eq_none (Nat.le_of_not_lt hk)]
theorem L2_lt (B : List UInt8) (i k : Nat) : (L2 B i).getD k 0 < 4294967296 := by
  refine getD_lt (fun x hx => ?_) k
  simp only [L2, List.mem_append, List.mem_replicate] at hx
  rcases hx with hx | hx
  · exact exs_all B i x hx
  · rw [hx.2]; decide
theorem L2_get (B : List UInt8) {i k : Nat} (hk : k < 16 + i) : (L2 B i).getD k 0 = (exs B i).getD k 0 := by
  simp [L2, List.getD, List.getElem?_append, exs_length, hk]
theorem L2_set (B : List UInt8) {i : Nat} (hi : i < 48) : (L2 B i).set (i + 16) (((L2 B i).getD i 0 + sig0 ((L2 B i).getD (i + 1) 0) + (L2 B i).getD (i + 9) 0 + sig1 ((L2 B i).getD (i + 14) 0)) % 4294967296) = L2 B (i + 1) := by
  rw [L2_get B (k := i) (by omega), L2_get B (k := i + 1) (by omega), L2_get B (k := i + 9) (by omega), L2_get B (k := i + 14) (by omega)]
  have hl := exs_length B i
  have e : exs B (i + 1) = exs B i ++ [((exs B i).getD i 0 + sig0 ((exs B i).getD (i + 1) 0) + (exs B i).getD (i + 9) 0 + sig1 ((exs B i).getD (i + 14) 0)) % 4294967296] := by
    show ex (exs B i) = _
    unfold ex
    rw [hl, show 16 + i - 16 = i by omega, show 16 + i - 15 = i + 1 by omega, show 16 + i - 7 = i + 9 by omega, show 16 + i - 2 = i + 14 by omega]
  unfold L2
  rw [e, List.set_append_right _ _ (by omega), show i + 16 - (exs B i).length = 0 by omega, show 48 - i = (48 - (i + 1)) + 1 by omega, List.replicate_succ, List.set_cons_zero, List.append_assoc]
  rfl
theorem small_0q (x : Nat) (w : World) (m : Nat) (hx : x < 4294967296) : Calls Tryz.prog 192 #[.int .u32 (x : Int), .int .i64 7, .int .i64 18, .int .i64 3] (w.drewN m) fun e w' => e = .returned (.int .u32 (sig0 x : Int)) ∧ ∃ n, w' = w.drewN n :=
  Calls.quiet_of (small_0 x _ hx)
theorem small_1q (x : Nat) (w : World) (m : Nat) (hx : x < 4294967296) : Calls Tryz.prog 192 #[.int .u32 (x : Int), .int .i64 17, .int .i64 19, .int .i64 10] (w.drewN m) fun e w' => e = .returned (.int .u32 (sig1 x : Int)) ∧ ∃ n, w' = w.drewN n :=
  Calls.quiet_of (small_1 x _ hx)
theorem wordI {x0 x1 x2 x3 : Nat} (h0 : x0 < 256) (h1 : x1 < 256) (h2 : x2 < 256) (h3 : x3 < 256) :
    bits BinOp.or IntKind.u32 (bits BinOp.or IntKind.u32 (bits BinOp.or IntKind.u32 ((x0 : Int) * 16777216) ((x1 : Int) * 65536)) ((x2 : Int) * 256)) (x3 : Int) = ((x0 * 16777216 + x1 * 65536 + x2 * 256 + x3 : Nat) : Int) := by
  have a0 : (x0 : Int) * 16777216 = ((x0 * 16777216 : Nat) : Int) := by simp
  have a1 : (x1 : Int) * 65536 = ((x1 * 65536 : Nat) : Int) := by simp
  have a2 : (x2 : Int) * 256 = ((x2 * 256 : Nat) : Int) := by simp
  rw [a0, a1, a2, u32_or_nat _ _ (by omega) (by omega), nat_join 24 _ _ (by omega) (by omega), u32_or_nat _ _ (by omega) (by omega), nat_join 16 _ _ (by omega) (by omega),
    u32_or_nat _ _ (by omega) (by omega), nat_join 8 _ _ (by omega) (by omega)]
theorem heap_drew (w : World) : w.drew.heap = w.heap := rfl

/-- But for what was drawn the same world. -/
def Same (a w : World) : Prop := w.heap = a.heap ∧ w.tape = a.tape ∧ w.os = a.os ∧ w.output = a.output
theorem Same.refl (a : World) : Same a a := ⟨rfl, rfl, rfl, rfl⟩
theorem Same.drew {a w : World} (h : Same a w) : Same a w.drew := h
theorem Same.drewN {a w : World} (h : Same a w) (n : Nat) : Same a (w.drewN n) := h
theorem Same.below {a w w' : World} {C : Nat} (h : Same a w') (hB : Below C w a) : Below C w w' :=
  ⟨h.2.2.1.trans hB.os, h.2.1.trans hB.tape, h.2.2.2.trans hB.output, by rw [h.1]; exact hB.size, fun g hg => by rw [h.1]; exact hB.block g hg⟩

def WdPost (w : World) (B : List UInt8) (e : Ending) (w' : World) : Prop := e = .returned (.agg (u32s (exs B 48)).toArray) ∧ Below w.heap.size w w'
set_option maxRecDepth 100000 in
set_option maxHeartbeats 12000000 in
theorem words_any {w : World} {b : Nat} {G : List Nat} {B : List UInt8} {n : Nat} (h : HashAt w b G B n) :
    Calls Tryz.prog 186 #[.pointer (some ⟨b, 0, none⟩)] w (WdPost w B) := by
  have hb := h.lt
  obtain ⟨w2, hw2⟩ : ∃ w2, w2 = (w.alloc (.cells #[.int .u32 0, .int .u32 0, .int .u32 0, .int .u32 0, .int .u32 0, .int .u32 0, .int .u32 0, .int .u32 0, .int .u32 0, .int .u32 0, .int .u32 0, .int .u32 0, .int .u32 0, .int .u32 0, .int .u32 0, .int .u32 0, .int .u32 0, .int .u32 0, .int .u32 0, .int .u32 0, .int .u32 0, .int .u32 0, .int .u32 0, .int .u32 0, .int .u32 0, .int .u32 0, .int .u32 0, .int .u32 0, .int .u32 0, .int .u32 0, .int .u32 0, .int .u32 0, .int .u32 0, .int .u32 0, .int .u32 0, .int .u32 0, .int .u32 0, .int .u32 0, .int .u32 0, .int .u32 0, .int .u32 0, .int .u32 0, .int .u32 0, .int .u32 0, .int .u32 0, .int .u32 0, .int .u32 0, .int .u32 0, .int .u32 0, .int .u32 0, .int .u32 0, .int .u32 0, .int .u32 0, .int .u32 0, .int .u32 0, .int .u32 0, .int .u32 0, .int .u32 0, .int .u32 0, .int .u32 0, .int .u32 0, .int .u32 0, .int .u32 0, .int .u32 0] 199)).alloc (.cells #[.int .u32 0, .int .u32 0, .int .u32 0, .int .u32 0, .int .u32 0, .int .u32 0, .int .u32 0, .int .u32 0, .int .u32 0, .int .u32 0, .int .u32 0, .int .u32 0, .int .u32 0, .int .u32 0, .int .u32 0, .int .u32 0, .int .u32 0, .int .u32 0, .int .u32 0, .int .u32 0, .int .u32 0, .int .u32 0, .int .u32 0, .int .u32 0, .int .u32 0, .int .u32 0, .int .u32 0, .int .u32 0, .int .u32 0, .int .u32 0, .int .u32 0, .int .u32 0, .int .u32 0, .int .u32 0, .int .u32 0, .int .u32 0, .int .u32 0, .int .u32 0, .int .u32 0, .int .u32 0, .int .u32 0, .int .u32 0, .int .u32 0, .int .u32 0, .int .u32 0, .int .u32 0, .int .u32 0, .int .u32 0, .int .u32 0, .int .u32 0, .int .u32 0, .int .u32 0, .int .u32 0, .int .u32 0, .int .u32 0, .int .u32 0, .int .u32 0, .int .u32 0, .int .u32 0, .int .u32 0, .int .u32 0, .int .u32 0, .int .u32 0, .int .u32 0] 199) := ⟨_, rfl⟩
  have b0 : w2.heap[w.heap.size]? = some (.cells Z64.toArray 199 (0, 0)) := by
    rw [hw2, Below.heap_alloc _ _ _ (by simp), Z64_eq]; exact heap_alloc_new w _
  have b1 : w2.heap[w.heap.size + 1]? = some (.cells (u32s (L1 B 0)).toArray 199 (0, 0)) := by
    rw [show u32s (L1 B 0) = Z64 from by simp [L1, Z64], hw2, Z64_eq]
    have := heap_alloc_new (w.alloc (.cells #[.int .u32 0, .int .u32 0, .int .u32 0, .int .u32 0, .int .u32 0, .int .u32 0, .int .u32 0, .int .u32 0, .int .u32 0, .int .u32 0, .int .u32 0, .int .u32 0, .int .u32 0, .int .u32 0, .int .u32 0, .int .u32 0, .int .u32 0, .int .u32 0, .int .u32 0, .int .u32 0, .int .u32 0, .int .u32 0, .int .u32 0, .int .u32 0, .int .u32 0, .int .u32 0, .int .u32 0, .int .u32 0, .int .u32 0, .int .u32 0, .int .u32 0, .int .u32 0, .int .u32 0, .int .u32 0, .int .u32 0, .int .u32 0, .int .u32 0, .int .u32 0, .int .u32 0, .int .u32 0, .int .u32 0, .int .u32 0, .int .u32 0, .int .u32 0, .int .u32 0, .int .u32 0, .int .u32 0, .int .u32 0, .int .u32 0, .int .u32 0, .int .u32 0, .int .u32 0, .int .u32 0, .int .u32 0, .int .u32 0, .int .u32 0, .int .u32 0, .int .u32 0, .int .u32 0, .int .u32 0, .int .u32 0, .int .u32 0, .int .u32 0, .int .u32 0] 199)) (.cells #[.int .u32 0, .int .u32 0, .int .u32 0, .int .u32 0, .int .u32 0, .int .u32 0, .int .u32 0, .int .u32 0, .int .u32 0, .int .u32 0, .int .u32 0, .int .u32 0, .int .u32 0, .int .u32 0, .int .u32 0, .int .u32 0, .int .u32 0, .int .u32 0, .int .u32 0, .int .u32 0, .int .u32 0, .int .u32 0, .int .u32 0, .int .u32 0, .int .u32 0, .int .u32 0, .int .u32 0, .int .u32 0, .int .u32 0, .int .u32 0, .int .u32 0, .int .u32 0, .int .u32 0, .int .u32 0, .int .u32 0, .int .u32 0, .int .u32 0, .int .u32 0, .int .u32 0, .int .u32 0, .int .u32 0, .int .u32 0, .int .u32 0, .int .u32 0, .int .u32 0, .int .u32 0, .int .u32 0, .int .u32 0, .int .u32 0, .int .u32 0, .int .u32 0, .int .u32 0, .int .u32 0, .int .u32 0, .int .u32 0, .int .u32 0, .int .u32 0, .int .u32 0, .int .u32 0, .int .u32 0, .int .u32 0, .int .u32 0, .int .u32 0, .int .u32 0] 199)
    simpa using this
  have hs2 : w2.heap.size = w.heap.size + 1 + 1 := by rw [hw2]; simp
  have hB2 : Below w.heap.size w w2 := by rw [hw2]; exact ((Below.refl _ _).alloc (Nat.le_refl _) _).alloc (by simp) _
  have HW := Lib.hid hw2
  have H0 := Lib.hid b0
  have H1 := Lib.hid b1
  have HS := Lib.hid hs2
  clear hw2 b0 b1 hs2
  go_enter Tryz.func186, Tryz.ntmps186
  go_wp2
  rw [← HW.out]
  go_loopw [7] (fun u wr => WdRel w (L1 B) 16 u wr) (fun u _ => 16 - (intOf u).toNat)
  case atStart => exact ⟨0, rfl, Nat.zero_le _, H1.out, H0.out, hB2, HS.out⟩
  case round =>
    obtain ⟨i, rfl, hi, r1, r0, hBr, hsr⟩ := hrel
    by_cases h16 : i < 16
    · have hh := h.below hBr hb
      have c0 := hh.byte (4 * i) (by omega)
      have c1 : wr.cell? ⟨b, 8 + 4 * i + 1, none⟩ = _ := hh.byte (4 * i + 1) (by omega)
      have c2 : wr.cell? ⟨b, 8 + 4 * i + 2, none⟩ = _ := hh.byte (4 * i + 2) (by omega)
      have c3 : wr.cell? ⟨b, 8 + 4 * i + 3, none⟩ = _ := hh.byte (4 * i + 3) (by omega)
      have l3 : (3 : Int) < ((64 - 4 * i : Nat) : Int) := by omega
      have l2 : (2 : Int) < ((64 - 4 * i : Nat) : Int) := by omega
      have l1 : (1 : Int) < ((64 - 4 * i : Nat) : Int) := by omega
      have l0 : 0 < 64 - 4 * i := by omega
      have m1 : 1 < 64 - 4 * i := by omega
      have m2 : 2 < 64 - 4 * i := by omega
      have m3 : 3 < 64 - 4 * i := by omega
      have gc : wr.cell? ⟨w.heap.size + 1, i, none⟩ = some (.int .u32 (((L1 B i).getD i 0 : Nat) : Int)) := by
        rw [cell_of_row wr _ i _ _ _ r1]
        simpa using u32s_get (L1 B i) i (by rw [L1_length B hi]; omega)
      have gf : wr.frozen? ⟨w.heap.size + 1, i, none⟩ = false := frozen_of_row wr _ i _ _ r1
      have e0 : (B.getD (4 * i) 0).toNat < 256 := (B.getD (4 * i) 0).toNat_lt
      have e1 : (B.getD (4 * i + 1) 0).toNat < 256 := (B.getD (4 * i + 1) 0).toNat_lt
      have e2 : (B.getD (4 * i + 2) 0).toNat < 256 := (B.getD (4 * i + 2) 0).toNat_lt
      have e3 : (B.getD (4 * i + 3) 0).toNat < 256 := (B.getD (4 * i + 3) 0).toNat_lt
      have R1 := Lib.hid r1
      have R0 := Lib.hid r0
      have RS := Lib.hid hsr
      have hw := w16_lt B i
      have hwi : w16 B i = (B.getD (4 * i) 0).toNat * 16777216 + (B.getD (4 * i + 1) 0).toNat * 65536 + (B.getD (4 * i + 2) 0).toNat * 256 + (B.getD (4 * i + 3) 0).toNat := rfl
      have HWI := Lib.hid hwi
      generalize (B.getD (4 * i) 0).toNat = x0 at *
      generalize (B.getD (4 * i + 1) 0).toNat = x1 at *
      generalize (B.getD (4 * i + 2) 0).toNat = x2 at *
      generalize (B.getD (4 * i + 3) 0).toNat = x3 at *
      have w1 : IntKind.i64.wrap (4 * (i : Int)) = 4 * (i : Int) := IntWalk.i64_in _ (by omega)
      have w2' : (0 : Int) ≤ 4 * (i : Int) := by omega
      have w3 : (4 * (i : Int)).toNat = 4 * i := by omega
      have w4 : 4 * i ≤ 64 := by omega
      have w5 : ¬ 64 = 4 * i := by omega
      have hi64 : (i : Int) < 64 := by omega
      have hi0 : (0 : Int) ≤ (i : Int) := by omega
      have sl := slice64 b 8 (4 * i) (4 * (i : Int)) (by omega) (by omega) .i64 wr
      clear hsr r1 r0 hh hwi w1 w2' w3 w4 w5
      go_wp2
      go_still_tail 24, (by kernel_rfl)
      change wpList _ _ _ _ _ wr.drew
      go_wp2
      refine ⟨⟨i + 1, by go_num, by omega, ?_, ?_, ?_, ?_⟩, by simp [intOf]; omega⟩
      · rw [wordI e0 e1 e2 e3, ← HWI.out, heap_drew, heap_setCell_same wr _ i _ _ _ R1.out]
        have := u32s_set (L1 B i) i (w16 B i)
        rw [L1_set B h16] at this
        simp [← this]
      · rw [heap_drew, heap_setCell_other _ _ _ _ (by simp)]; exact R0.out
      · exact ((hBr.setCell (by simp) _).drew)
      · simpa using RS.out
    · obtain rfl : i = 16 := by omega
      rw [L1_L2] at r1
      have R1 := Lib.hid r1
      have R0 := Lib.hid r0
      have RS := Lib.hid hsr
      clear hsr r1 r0
      go_wp2
      go_loopw [41] (fun u wr => WdRel w (L2 B) 48 u wr) (fun u _ => 48 - (intOf u).toNat)
      case atStart => exact ⟨0, rfl, Nat.zero_le _, R1.out, R0.out, hBr, RS.out⟩
      case round =>
        clear R1 R0 RS hBr HW H0 H1 HS hB2
        obtain ⟨i, rfl, hi, r1, r0, hBr, hsr⟩ := hrel
        by_cases h48 : i < 48
        · have gx : ∀ k, k < 64 → wr.cell? ⟨w.heap.size + 1, k, none⟩ = some (.int .u32 (((L2 B i).getD k 0 : Nat) : Int)) := by
            intro k hk
            rw [cell_of_row wr _ k _ _ _ r1]
            simpa using u32s_get (L2 B i) k (by rw [L2_length B hi]; exact hk)
          have c0 := gx i (by omega)
          have c1 := gx (i + 1) (by omega)
          have c9 := gx (i + 9) (by omega)
          have c14 := gx (i + 14) (by omega)
          have c16 := gx (i + 16) (by omega)
          have gf : ∀ k, wr.frozen? ⟨w.heap.size + 1, k, none⟩ = false := fun k => frozen_of_row wr _ k _ _ r1
          have R1 := Lib.hid r1
          have R0 := Lib.hid r0
          have RS := Lib.hid hsr
          clear hsr r1 r0 gx
          have hy1 := L2_lt B i (i + 1)
          have hy14 := L2_lt B i (i + 14)
          have hn := L2_set B h48
          have HN := Lib.hid hn
          clear hn
          generalize (L2 B i).getD i 0 = y0 at *
          generalize (L2 B i).getD (i + 1) 0 = y1 at *
          generalize (L2 B i).getD (i + 9) 0 = y9 at *
          generalize (L2 B i).getD (i + 14) 0 = y14 at *
          generalize (L2 B i).getD (i + 16) 0 = y16 at *
          have sm := Same.refl wr
          have j0 : (i : Int) < 64 := by omega
          have j1 : (i : Int) + 1 < 64 := by omega
          have j9 : (i : Int) + 9 < 64 := by omega
          have j14 : (i : Int) + 14 < 64 := by omega
          have j16 : (i : Int) + 16 < 64 := by omega
          have gf16 := gf (i + 16)
          have p0 : (0 : Int) ≤ (i : Int) := by omega
          have p1 : (0 : Int) ≤ (i : Int) + 1 := by omega
          have p9 : (0 : Int) ≤ (i : Int) + 9 := by omega
          have p14 : (0 : Int) ≤ (i : Int) + 14 := by omega
          have p16 : (0 : Int) ≤ (i : Int) + 16 := by omega
          have q1 : ((i : Int) + 1).toNat = i + 1 := by omega
          have q9 : ((i : Int) + 9).toNat = i + 9 := by omega
          have q14 : ((i : Int) + 14).toNat = i + 14 := by omega
          have q16 : ((i : Int) + 16).toNat = i + 16 := by omega
          have v1 : IntKind.i64.wrap ((i : Int) + 1) = (i : Int) + 1 := IntWalk.i64_in _ (by omega)
          have v9 : IntKind.i64.wrap ((i : Int) + 9) = (i : Int) + 9 := IntWalk.i64_in _ (by omega)
          have v14 : IntKind.i64.wrap ((i : Int) + 14) = (i : Int) + 14 := IntWalk.i64_in _ (by omega)
          have v16 : IntKind.i64.wrap ((i : Int) + 16) = (i : Int) + 16 := IntWalk.i64_in _ (by omega)
          have t1 : i + 1 < 64 := by omega
          have t9 : i + 9 < 64 := by omega
          have t14 : i + 14 < 64 := by omega
          have t16 : i + 16 < 64 := by omega
          go_wp2_with fail
          (refine wp_region_quiet_tail 22 (by kernel_rfl) (by kernel_rfl) ?_; simp only [List.take_succ_cons, List.take_zero, List.drop_succ_cons, List.drop_zero]; (repeat (go_big_quiet_step (first | (go_at_call_of 192 (Value.int .u32 (y1 : Int)); exact small_0q y1 wr _ hy1) | (go_at_call_of 192 (Value.int .u32 (y14 : Int)); exact small_1q y14 wr _ hy14)))); refine wpQuiet_nil ?_; intro _ hw'; obtain ⟨nq, hw''⟩ := hw'; subst hw'')
          go_wp2
          refine ⟨⟨i + 1, by go_num, by omega, ?_, ?_, ?_, ?_⟩, by simp [intOf]; omega⟩
          · rw [heap_setCell_same (wr.drewN nq) _ (i + 16) _ _ _ R1.out, ← HN.out]
            have hv : ∀ x : Nat, (u32s (L2 B i)).toArray.setIfInBounds (i + 16) (.int .u32 (x : Int)) = (u32s ((L2 B i).set (i + 16) x)).toArray := by
              intro x
              rw [← u32s_set]; simp
            rw [← hv]
            congr 2
          · rw [heap_setCell_other _ _ _ _ (by simp)]; exact R0.out
          · exact (below_drewN hBr nq).setCell (by simp) _
          · simpa using RS.out
        · obtain rfl : i = 48 := by omega
          have R1 := Lib.hid r1
          have R0 := Lib.hid r0
          have RS := Lib.hid hsr
          have h48 : L2 B 48 = exs B 48 := by simp [L2]
          rw [h48] at r1
          have R1 := Lib.hid r1
          have hsz : (u32s (exs B 48)).toArray.size = 64 := by simp [u32s, exs_length]
          have sz := Lib.hid (show (Tryz.prog.info? 199).map (·.size) = some (u32s (exs B 48)).toArray.size by rw [hsz]; kernel_rfl)
          have so := Lib.hid (show Z64.toArray.size = (u32s (exs B 48)).toArray.size by rw [hsz]; simp [Z64, u32s])
          have s1 := Lib.hid (show (u32s (exs B 48)).toArray.all (·.oneCell') = true from all_oneCell_toArray (u32s_one _))
          clear hsr r1 r0 h48 hsz
          go_wp2_with (first
            | (refine wpList_load_row rfl 199 (.tmp 3) rfl (w.heap.size + 1) rfl 199 _ (0, 0) _ R1.out Tryz.underlying199 rfl sz.out ?_)
            | (refine wpList_store_all rfl 199 (.tmp 2) (.tmp 68) rfl w.heap.size 199 Z64.toArray (u32s (exs B 48)).toArray rfl rfl R0.out sz.out so.out s1.out ?_))
          refine bodyPost_ret (results_cell_row rfl _ _ w.heap.size 199 (u32s (exs B 48)).toArray (0, 0) _ rfl (setRow_heap wr _ _ _ _ (0, 0) R0.out) Tryz.underlying199 rfl sz.out) rfl ?_
          exact ⟨rfl, below_setRow hBr (Nat.le_refl _) _⟩
end Go.Proofs.YtnfobnnbeefeeaaGreatDoor.Sm
/- The eight numbers as they are now. -/
namespace Go.Proofs.YtnfobnnbeefeeaaGreatDoor.Sm
open Go Go.RowKit
set_option linter.unusedVariables false

def zip8 (G S : List Nat) : List Nat := (List.range 8).map fun i => (G.getD i 0 + S.getD i 0) % 4294967296
/-- The first i have been gained. -/
def zipTo (G S : List Nat) (i : Nat) : List Nat := (zip8 G S).take i ++ G.drop i
theorem zip8_length (G S : List Nat) : (zip8 G S).length = 8 := by simp [zip8]
theorem zipTo_length (G S : List Nat) (hG : G.length = 8) {i : Nat} (hi : i ≤ 8) : (zipTo G S i).length = 8 := by simp [zipTo, zip8_length, hG]; omega
theorem zipTo_get (G S : List Nat) (hG : G.length = 8) {i : Nat} (hi : i < 8) : (zipTo G S i).getD i 0 = G.getD i 0 := by
  have h1 : ((zip8 G S).take i).length = i := by simp [zip8_length]; omega
  simp [zipTo, List.getD, List.getElem?_append, zip8_length, Nat.min_eq_left (show i ≤ 8 by omega)]
theorem zipTo_set (G S : List Nat) (hG : G.length = 8) {i : Nat} (hi : i < 8) : (zipTo G S i).set i ((G.getD i 0 + S.getD i 0) % 4294967296) = zipTo G S (i + 1) := by
  have h1 : ((zip8 G S).take i).length = i := by simp [zip8_length]; omega
  have h2 : G.drop i = G[i]'(by omega) :: G.drop (i + 1) := List.drop_eq_getElem_cons (by omega)
  unfold zipTo
  rw [List.set_append_right _ _ (by omega), h1, Nat.sub_self, h2, List.set_cons_zero, List.take_succ_eq_append_getElem (by rw [zip8_length]; exact hi), List.append_assoc]
  simp [zip8]
def Z8 : List Value := u32s (List.replicate 8 0)
theorem HashAt.rangeG {w : World} {b : Nat} {G : List Nat} {B : List UInt8} {n : Nat} (h : HashAt w b G B n) : w.rangeAt b 0 (u32s G) := by
  intro j v hv
  have hj : j < G.length := by
    rcases Nat.lt_or_ge j G.length with h' | h'
    · exact h'
    · rw [List.getElem?_eq_none (by rw [u32s_length]; exact h')] at hv; cases hv
  have := h.gained j (by have := h.1; omega)
  rw [u32s_get G j hj] at hv
  rw [Nat.zero_add, this, ← hv]
def StRel (w : World) (G S : List Nat) (u : Value) (wr : World) : Prop :=
  ∃ i : Nat, u = .int .i64 (i : Int) ∧ i ≤ 8 ∧ wr.heap[w.heap.size + 1]? = some (.cells (u32s (zipTo G S i)).toArray 151 (0, 0)) ∧ wr.heap[w.heap.size]? = some (.cells Z8.toArray 151 (0, 0)) ∧ Below w.heap.size w wr
set_option maxRecDepth 100000 in
set_option maxHeartbeats 2000000 in
theorem state_any {w : World} {b : Nat} {G : List Nat} {B : List UInt8} {n : Nat} (h : HashAt w b G B n) (S : List Nat) (hS : S.length = 8) (hsc : ∀ i, i < 8 → w.cell? ⟨1, i, none⟩ = some (.int .u32 ((S.getD i 0 : Nat) : Int))) :
    Calls Tryz.prog 153 #[.pointer (some ⟨b, 0, none⟩)] w fun e w' => e = .returned (.agg (u32s (zip8 G S)).toArray) ∧ Below w.heap.size w w' := by
  have hb := h.lt
  have hG := h.1
  have hgs : 1 < w.heap.size := World.block_lt_of_cell? w _ (hsc 0 (by decide))
  obtain ⟨w2, hw2⟩ : ∃ w2, w2 = w.alloc (.cells #[.int .u32 0, .int .u32 0, .int .u32 0, .int .u32 0, .int .u32 0, .int .u32 0, .int .u32 0, .int .u32 0] 151) := ⟨_, rfl⟩
  have hB2 : Below w.heap.size w w2 := by rw [hw2]; exact (Below.refl _ _).alloc (Nat.le_refl _) _
  have rg : w2.rangeAt b 0 (u32s G) := (h.below hB2 hb).rangeG
  have b0 : w2.heap[w.heap.size]? = some (.cells Z8.toArray 151 (0, 0)) := by rw [hw2]; exact heap_alloc_new w _
  obtain ⟨w3, hw3⟩ : ∃ w3, w3 = w2.alloc (.cells #[.int .u32 0, .int .u32 0, .int .u32 0, .int .u32 0, .int .u32 0, .int .u32 0, .int .u32 0, .int .u32 0] 151) := ⟨_, rfl⟩
  have hs2 : w2.heap.size = w.heap.size + 1 := by rw [hw2]; simp
  have b1 : w3.heap[w.heap.size + 1]? = some (.cells Z8.toArray 151 (0, 0)) := by rw [hw3, ← hs2]; exact heap_alloc_new w2 _
  have b0' : w3.heap[w.heap.size]? = some (.cells Z8.toArray 151 (0, 0)) := by rw [hw3, Below.heap_alloc _ _ _ (by omega)]; exact b0
  have hB3 : Below w.heap.size w w3 := by rw [hw3]; exact hB2.alloc (by omega) _
  have H2 := Lib.hid hB2
  have sz := Lib.hid (show (Tryz.prog.info? 151).map (·.size) = some (u32s G).length by rw [u32s_length, hG]; kernel_rfl)
  have sz' := Lib.hid (show (Tryz.prog.info? 151).map (·.size) = some (u32s G).toArray.size by rw [List.size_toArray, u32s_length, hG]; kernel_rfl)
  have so := Lib.hid (show Z8.toArray.size = (u32s G).toArray.size by simp [Z8, u32s_length, hG])
  have s1 := Lib.hid (show (u32s G).toArray.all (·.oneCell') = true from all_oneCell_toArray (u32s_one _))
  have HW := Lib.hid hw2
  have HW3 := Lib.hid hw3
  rw [hw3, hw2] at b1
  rw [hw2] at rg
  have RG := Lib.hid rg
  have B1 := Lib.hid b1
  have B0 := Lib.hid b0'
  have HS := Lib.hid hsc
  have H3 := Lib.hid hB3
  clear rg b0 b1 b0' hB2 hB3 hw2 hw3 hsc hs2
  go_enter Tryz.func153, Tryz.ntmps153
  go_wp2_with (first
    | (refine wpList_load_mid rfl 151 (.tmp 7) rfl b 0 rfl (u32s G) _ RG.out Tryz.underlying151 rfl sz.out ?_)
    | (refine wpList_store_all rfl 151 (.tmp 3) (.tmp 8) rfl (w.heap.size + 1) 151 Z8.toArray (u32s G).toArray rfl rfl B1.out sz'.out so.out s1.out ?_))
  rw [← HW.out, ← HW3.out]
  have st : (w3.setRow (w.heap.size + 1) (u32s G).toArray).heap[w.heap.size + 1]? = some (.cells (u32s (zipTo G S 0)).toArray 151 (0, 0)) := by
    have := B1.out
    rw [← HW.out, ← HW3.out] at this
    simpa [zipTo] using setRow_heap w3 (w.heap.size + 1) _ (u32s G).toArray 151 (0, 0) this
  have st0 : (w3.setRow (w.heap.size + 1) (u32s G).toArray).heap[w.heap.size]? = some (.cells Z8.toArray 151 (0, 0)) := by
    rw [setRow_other w3 (w.heap.size + 1) w.heap.size _ (by omega)]; exact B0.out
  have sB : Below w.heap.size w (w3.setRow (w.heap.size + 1) (u32s G).toArray) := below_setRow H3.out (by omega) _
  generalize w3.setRow (w.heap.size + 1) (u32s G).toArray = w4 at *
  clear RG B1 B0 H3 H2 HW HW3 sz sz' so s1 w2 w3
  have ST := Lib.hid st
  have ST0 := Lib.hid st0
  clear st st0
  go_loopw [9] (fun u wr => StRel w G S u wr) (fun u _ => 8 - (intOf u).toNat)
  case atStart => exact ⟨0, rfl, Nat.zero_le _, ST.out, ST0.out, sB⟩
  case round =>
    clear ST ST0 sB
    obtain ⟨i, rfl, hi, r1, r0, hBr⟩ := hrel
    by_cases h8 : i < 8
    · have c0 : wr.cell? ⟨w.heap.size + 1, i, none⟩ = some (.int .u32 ((G.getD i 0 : Nat) : Int)) := by
        rw [cell_of_row wr _ i _ _ _ r1, ← zipTo_get G S hG h8]
        simpa using u32s_get (zipTo G S i) i (by rw [zipTo_length G S hG hi]; exact h8)
      have k0 : wr.cell? ⟨1, i, none⟩ = some (.int .u32 ((S.getD i 0 : Nat) : Int)) := (hBr.cell (p := ⟨1, i, none⟩) hgs).trans (HS.out i h8)
      have gf : wr.frozen? ⟨w.heap.size + 1, i, none⟩ = false := frozen_of_row wr _ i _ _ r1
      have hn := zipTo_set G S hG h8
      have HN := Lib.hid hn
      have R1 := Lib.hid r1
      have R0 := Lib.hid r0
      clear hn r1 r0
      generalize G.getD i 0 = x at *
      generalize S.getD i 0 = y at *
      have p0 : (0 : Int) ≤ (i : Int) := by omega
      have j0 : (i : Int) < 8 := by omega
      go_wp2_with fail
      (refine wp_region_quiet_tail 7 (by kernel_rfl) (by kernel_rfl) ?_; simp only [List.take_succ_cons, List.take_zero, List.drop_succ_cons, List.drop_zero]; (repeat (go_big_quiet_step (fail))); refine wpQuiet_nil ?_; intro _ hw'; obtain ⟨nq, hw''⟩ := hw'; subst hw'')
      go_wp2
      refine ⟨⟨i + 1, by go_num, by omega, ?_, ?_, ?_⟩, by simp [intOf]; omega⟩
      · rw [heap_setCell_same (wr.drewN nq) _ i _ _ _ R1.out, ← HN.out]
        have hv : ∀ x : Nat, (u32s (zipTo G S i)).toArray.setIfInBounds i (.int .u32 (x : Int)) = (u32s ((zipTo G S i).set i x)).toArray := by
          intro x
          rw [← u32s_set]; simp
        rw [← hv]
        congr 2
      · rw [heap_setCell_other _ _ _ _ (by simp)]; exact R0.out
      · exact (below_drewN hBr nq).setCell (by simp) _
    · obtain rfl : i = 8 := by omega
      have e8 : zipTo G S 8 = zip8 G S := by simp [zipTo, hG, zip8_length, List.take_of_length_le]
      rw [e8] at r1
      have R1 := Lib.hid r1
      have R0 := Lib.hid r0
      have hsz : (u32s (zip8 G S)).toArray.size = 8 := by simp [u32s, zip8_length]
      have sz := Lib.hid (show (Tryz.prog.info? 151).map (·.size) = some (u32s (zip8 G S)).toArray.size by rw [hsz]; kernel_rfl)
      have so := Lib.hid (show Z8.toArray.size = (u32s (zip8 G S)).toArray.size by rw [hsz]; simp [Z8, u32s])
      have s1 := Lib.hid (show (u32s (zip8 G S)).toArray.all (·.oneCell') = true from all_oneCell_toArray (u32s_one _))
      clear r1 r0 e8 hsz
      go_wp2_with (first
        | (refine wpList_load_row rfl 151 (.tmp 3) rfl (w.heap.size + 1) rfl 151 _ (0, 0) _ R1.out Tryz.underlying151 rfl sz.out ?_)
        | (refine wpList_store_all rfl 151 (.tmp 2) (.tmp 21) rfl w.heap.size 151 Z8.toArray (u32s (zip8 G S)).toArray rfl rfl R0.out sz.out so.out s1.out ?_))
      refine bodyPost_ret (results_cell_row rfl _ _ w.heap.size 151 (u32s (zip8 G S)).toArray (0, 0) _ rfl (setRow_heap wr _ _ _ _ (0, 0) R0.out) Tryz.underlying151 rfl sz.out) rfl ?_
      exact ⟨rfl, below_setRow hBr (Nat.le_refl _) _⟩
end Go.Proofs.YtnfobnnbeefeeaaGreatDoor.Sm
