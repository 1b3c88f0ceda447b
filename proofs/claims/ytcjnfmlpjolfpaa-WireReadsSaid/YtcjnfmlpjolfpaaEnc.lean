/- Numbers as bytes, seven bits a byte, the lowest first; numbers with a sign as numbers without one. Plain arithmetic; no program's text is used. -/
namespace Go.Proofs.Ytcjnfmlpjolfpaa

/-- A number's bytes, at most so many. -/
def encF : Nat → Nat → List UInt8
  | 0, _ => []
  | f + 1, n => if n < 128 then [UInt8.ofNat n] else UInt8.ofNat (n % 128 + 128) :: encF f (n / 128)
/-- A number's bytes. -/
def enc (n : Nat) : List UInt8 := encF 10 n

theorem encF_succ (f n : Nat) : encF (f + 1) n = if n < 128 then [UInt8.ofNat n] else UInt8.ofNat (n % 128 + 128) :: encF f (n / 128) := rfl
theorem encF_more (f : Nat) : ∀ n, n < 128 ^ (f + 1) → encF (f + 1) n = encF (f + 2) n := by
  induction f with
  | zero => intro n h; simp [encF, show n < 128 by omega]
  | succ f ih =>
    intro n h
    rw [encF_succ (f + 1), encF_succ (f + 2), ih (n / 128) (by rw [Nat.div_lt_iff_lt_mul (by omega)]; simpa [Nat.pow_succ] using h)]
theorem enc_lt {n : Nat} (h : n < 128) : enc n = [UInt8.ofNat n] := by simp [enc, encF, h]
theorem enc_ge {n : Nat} (h : 128 ≤ n) (hn : n < 18446744073709551616) : enc n = UInt8.ofNat (n % 128 + 128) :: enc (n / 128) := by
  have e := encF_more 8 (n / 128) (by simp; omega)
  unfold enc
  rw [encF_succ 9, if_neg (by omega), e]
theorem encF_length (f n : Nat) : (encF f n).length ≤ f := by
  induction f generalizing n with
  | zero => simp [encF]
  | succ f ih => rw [encF]; split <;> simp; exact ih _
theorem enc_length (n : Nat) : (enc n).length ≤ 10 := encF_length 10 n
theorem u8_low (n : Nat) : ((UInt8.ofNat (n % 128 + 128)).toNat : Int) = (n : Int) % 128 + 128 := by
  rw [UInt8.toNat_ofNat']; omega
theorem u8_small {n : Nat} (h : n < 128) : ((UInt8.ofNat n).toNat : Int) = (n : Int) := by
  rw [UInt8.toNat_ofNat']; omega

/-- A number with a sign, as one without. -/
def zig (n : Int) : Nat := if n < 0 then (-2 * n - 1).toNat else (2 * n).toNat
theorem zig_neg {n : Int} (h : n < 0) : ((zig n : Nat) : Int) = -2 * n - 1 := by unfold zig; rw [if_pos h]; omega
theorem zig_pos {n : Int} (h : 0 ≤ n) : ((zig n : Nat) : Int) = 2 * n := by unfold zig; rw [if_neg (by omega)]; omega
theorem zig_lt {n : Int} (h0 : -9223372036854775808 ≤ n) (h1 : n ≤ 9223372036854775807) : zig n < 18446744073709551616 := by unfold zig; split <;> omega
/-- And back. -/
def zag (u : Nat) : Int := if u % 2 = 1 then -((u / 2 : Nat) : Int) - 1 else ((u / 2 : Nat) : Int)
theorem zag_zig (n : Int) : zag (zig n) = n := by unfold zag zig; split <;> split <;> omega
theorem zig_zag (u : Nat) : zig (zag u) = u := by unfold zag zig; split <;> split <;> omega
end Go.Proofs.Ytcjnfmlpjolfpaa
