/- The reference's other numbers and texts; what the writer's Fixed writes. -/
import Derived.Test.YtcjnfmlpjolfpaaNr
namespace Go.Proofs.Ytcjnfmlpjolfpaa
open Go Go.RowKit
set_option linter.unusedVariables false

/-- The first i bytes of a number, the lowest first. -/
def leTo (n : Nat) : Nat → List UInt8
  | 0 => []
  | i + 1 => leTo n i ++ [UInt8.ofNat (n / 256 ^ i)]
theorem leTo_length (n : Nat) : ∀ i, (leTo n i).length = i
  | 0 => rfl
  | i + 1 => by simp [leTo, leTo_length n i]
def RfRel (n : Nat) (w : World) (x v u : Value) (wr : World) : Prop := ∃ i : Nat, u = .int .i64 (i : Int) ∧ i ≤ 4 ∧ x = .int .u32 ((n / 256 ^ i : Nat) : Int) ∧ v = .string (str (leTo n i)) ∧ Below w.heap.size w wr
set_option maxRecDepth 100000 in
set_option maxHeartbeats 1600000 in
theorem refText_any (s : ByteArray) (hs : s.size ≤ 1000000) (w : World) : Calls Try.prog 14 #[.string s] w fun e w' => e = .returned (.string (str (enc s.size) ++ s)) ∧ Below w.heap.size w w' := by
  obtain ⟨n, hn⟩ : ∃ n, s.size = n := ⟨_, rfl⟩
  rw [hn] at hs
  have N := Lib.hid (refNum_any n (by omega))
  have hI : (n : Int) ≤ 1000000 := by omega
  have hes : (str (enc n)).size ≤ 10 := by rw [wstr_size]; exact enc_length n
  have hen : enc s.size = enc n := by rw [hn]
  rw [hen]
  clear hen
  go_enter Try.func14, Try.ntmps14
  go_wp2_with fail
  refine (N.out w).mono ?_
  rintro e w' ⟨rfl, hB⟩
  go_wp2_with fail
  go_ret
  exact ⟨rfl, hB⟩
set_option maxRecDepth 100000 in
set_option maxHeartbeats 1600000 in
theorem refInt_any (n : Int) (h0 : -9223372036854775808 ≤ n) (h1 : n ≤ 9223372036854775807) (w : World) : Calls Try.prog 10 #[.int .i64 n] w fun e w' => e = .returned (.string (str (enc (zig n)))) ∧ Below w.heap.size w w' := by
  have hz := zig_lt h0 h1
  by_cases hn : n < 0
  · have z := zig_neg hn
    obtain ⟨m, hm⟩ : ∃ m, m = zig n := ⟨_, rfl⟩
    rw [← hm] at z hz ⊢
    have N := Lib.hid (refNum_any m hz w)
    have hn' : ¬ 0 ≤ n := by omega
    clear hm
    go_enter Try.func10, Try.ntmps10
    go_wp2_with fail
    rw [show -(n + 1) * 2 + 1 = (m : Int) by omega]
    refine N.out.mono ?_
    rintro e w' ⟨rfl, hB⟩
    go_wp2_with fail
    go_ret
    exact ⟨rfl, hB⟩
  · have z := zig_pos (show 0 ≤ n by omega)
    obtain ⟨m, hm⟩ : ∃ m, m = zig n := ⟨_, rfl⟩
    rw [← hm] at z hz ⊢
    have N := Lib.hid (refNum_any m hz w)
    have hn' : 0 ≤ n := by omega
    clear hm
    go_enter Try.func10, Try.ntmps10
    go_wp2_with fail
    rw [show n * 2 = (m : Int) by omega]
    refine N.out.mono ?_
    rintro e w' ⟨rfl, hB⟩
    go_wp2_with fail
    go_ret
    exact ⟨rfl, hB⟩
set_option maxRecDepth 100000 in
set_option maxHeartbeats 1600000 in
theorem refFixed_any (n : Nat) (hn : n < 4294967296) (w : World) : Calls Try.prog 12 #[.int .u32 (n : Int)] w fun e w' => e = .returned (.string (str (leTo n 4))) ∧ Below w.heap.size w w' := by
  go_enter Try.func12, Try.ntmps12
  go_wp2_with fail
  go_loopw [0, 3, 4] (fun x v u wr => RfRel n w x v u wr) (fun _ _ u _ => 4 - (intOf u).toNat)
  case atStart => exact ⟨0, rfl, Nat.zero_le _, by simp, rfl, Below.refl _ _⟩
  case round =>
    obtain ⟨wr0, rfl⟩ : ∃ wr0 : World, wr0 = wr := ⟨_, rfl⟩
    obtain ⟨i, rfl, hi, rfl, rfl, hBr⟩ := hrel
    by_cases hi4 : i < 4
    · have hdd : n / 256 ^ (i + 1) = n / 256 ^ i / 256 := by rw [Nat.pow_succ, Nat.div_div_eq_div_mul]
      have hle : leTo n (i + 1) = leTo n i ++ [UInt8.ofNat (n / 256 ^ i)] := rfl
      have hbl : n / 256 ^ i < 4294967296 := Nat.lt_of_le_of_lt (Nat.div_le_self _ _) hn
      have hs1 : (str (leTo n i)).size = i := by rw [wstr_size, leTo_length]
      have ii4 : (i : Int) < 4 := by omega
      generalize leTo n i = L at *
      generalize n / 256 ^ i = y at *
      have hy8 : (y : Int) % 256 = (((UInt8.ofNat y).toNat : Nat) : Int) := by rw [UInt8.toNat_ofNat']; omega
      obtain ⟨b, hb⟩ : ∃ b, b = UInt8.ofNat y := ⟨_, rfl⟩
      rw [← hb] at hy8 hle
      have hs2 : (str [b]).size = 1 := wstr_size _
      have CV := cv_one (wr0.alloc (.cells #[.int .u8 ((b.toNat : Nat) : Int)] 5)) wr0.heap.size b (heap_alloc_new wr0 _)
      have HDD := Lib.hid hdd
      have HLE := Lib.hid hle
      have HBR := Lib.hid hBr
      have hb8 := b.toNat_lt
      have hyI : (y : Int) < 4294967296 := by omega
      clear hdd hle hBr hb
      go_wp2_with fail
      exact ⟨⟨i + 1, by go_num, by omega, by rw [HDD.out]; simp, by rw [HLE.out, wstr_app], HBR.out.alloc HBR.out.size _⟩, by simp [intOf]; omega⟩
    · obtain rfl : i = 4 := by omega
      have HBR := Lib.hid hBr
      rw [show ((4 : Nat) : Int) = 4 from rfl]
      generalize n / 256 ^ 4 = y at *
      clear hBr
      go_wp2_with fail
      go_ret
      exact ⟨rfl, HBR.out⟩
end Go.Proofs.Ytcjnfmlpjolfpaa
