/- Bits that are turned: plain mathematics. -/
import Derived.Test.YtejbookaflnpeaaDoorCp
namespace Go.Proofs.YtejbookaflnpeaaDoor
set_option linter.unusedVariables false

/-- One bit of some bytes is turned, if it is to be and there is one. -/
def turn1 (a t k : Nat) (l : List UInt8) : List UInt8 := if t.testBit k = true ∧ a + k < 8 * l.length then l.set ((a + k) / 8) (UInt8.ofNat ((l.getD ((a + k) / 8) 0).toNat ^^^ 2 ^ ((a + k) % 8))) else l
def turns (a t : Nat) (l : List UInt8) : Nat → List UInt8
  | 0 => l
  | k + 1 => turn1 a t k (turns a t l k)
theorem turn1_length (a t k : Nat) (l : List UInt8) : (turn1 a t k l).length = l.length := by unfold turn1; split <;> simp
theorem turns_length (a t : Nat) (l : List UInt8) : ∀ k, (turns a t l k).length = l.length
  | 0 => rfl
  | k + 1 => by rw [turns, turn1_length, turns_length a t l k]
theorem turn1_bit (a t k : Nat) (l : List UInt8) (m : Nat) (hm : m ≠ a + k) : ((turn1 a t k l).getD (m / 8) 0).toNat.testBit (m % 8) = (l.getD (m / 8) 0).toNat.testBit (m % 8) := by
  unfold turn1
  split
  · rename_i h
    by_cases h8 : (a + k) / 8 = m / 8
    · have hl : m / 8 < l.length := by omega
      rw [h8]
      have e : (l.set (m / 8) (UInt8.ofNat ((l.getD (m / 8) 0).toNat ^^^ 2 ^ ((a + k) % 8)))).getD (m / 8) 0 = UInt8.ofNat ((l.getD (m / 8) 0).toNat ^^^ 2 ^ ((a + k) % 8)) := by
        simp [List.getD, hl]
      rw [e, UInt8.toNat_ofNat']
      have hx : (l.getD (m / 8) 0).toNat ^^^ 2 ^ ((a + k) % 8) < 2 ^ 8 := Nat.xor_lt_two_pow (UInt8.toNat_lt _) (Nat.pow_lt_pow_right (by decide) (Nat.mod_lt _ (by decide)))
      rw [Nat.mod_eq_of_lt hx, Nat.testBit_xor, Nat.testBit_two_pow, decide_eq_false (by omega)]
      simp
    · simp [List.getD, List.getElem?_set_ne h8]
  · rfl
theorem turns_bit (a t : Nat) (l : List UInt8) (m : Nat) : ∀ k, (m < a ∨ a + k ≤ m) → ((turns a t l k).getD (m / 8) 0).toNat.testBit (m % 8) = (l.getD (m / 8) 0).toNat.testBit (m % 8)
  | 0, _ => rfl
  | k + 1, h => by rw [turns, turn1_bit _ _ _ _ _ (by omega), turns_bit a t l m k (by omega)]
/-- The statement's own words: the sums agree just if the bytes do. -/
theorem bit_seen (a t : Nat) (l : List UInt8) : crcOf l = crcOf (turns a t l 32) ↔ l = turns a t l 32 := by
  constructor
  · intro h
    refine crc_sees (turns_length a t l 32).symm a (fun m hm ho => ?_) h
    rw [bitsL_get _ _ hm, bitsL_get _ _ (by rw [turns_length]; exact hm), turns_bit a t l m 32 ho]
  · intro h; rw [← h]
end Go.Proofs.YtejbookaflnpeaaDoor
