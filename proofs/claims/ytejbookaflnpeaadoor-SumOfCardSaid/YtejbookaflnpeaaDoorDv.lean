/- CRC-32 as the rest of a division of polynomials: plain mathematics. -/
import Derived.Test.YtejbookaflnpeaaDoorCp
namespace Go.Proofs.YtejbookaflnpeaaDoor
set_option linter.unusedVariables false

def powers : List Nat := [26, 23, 22, 16, 12, 11, 10, 8, 7, 5, 4, 2, 1, 0]
def flipAt (L : List Bool) (i : Nat) : List Bool := L.set i (!L.getD i false)
/-- The first j powers' bits are turned. -/
def flips (L : List Bool) (k : Nat) : Nat → List Bool
  | 0 => L
  | j + 1 => flipAt (flips L k j) (k + 32 - powers.getD j 0)
def divStep (L : List Bool) (k : Nat) : List Bool := if L.getD k false = true then flips (L.set k false) k 14 else L
def divs (L : List Bool) : Nat → List Bool
  | 0 => L
  | k + 1 => divStep (divs L k) k
/-- The first j are turned about. -/
def nots (L : List Bool) : Nat → List Bool
  | 0 => L
  | j + 1 => flipAt (nots L j) j
/-- The number of the last j bits: the last one the highest. -/
def tailNum (L : List Bool) : Nat → Nat
  | 0 => 0
  | j + 1 => tailNum L j * 2 + (if L.getD (L.length - 1 - j) false then 0 else 1)
def crcRef (xs : List UInt8) : Nat := tailNum (divs (nots (bitsL xs ++ List.replicate 32 false) 32) (8 * xs.length)) 32

theorem flipAt_length (L : List Bool) (i : Nat) : (flipAt L i).length = L.length := by simp [flipAt]
theorem flips_length (L : List Bool) (k : Nat) : ∀ j, (flips L k j).length = L.length
  | 0 => rfl
  | j + 1 => by rw [flips, flipAt_length, flips_length L k j]
theorem divStep_length (L : List Bool) (k : Nat) : (divStep L k).length = L.length := by
  unfold divStep; split
  · rw [flips_length]; simp
  · rfl
theorem divs_length (L : List Bool) : ∀ k, (divs L k).length = L.length
  | 0 => rfl
  | k + 1 => by rw [divs, divStep_length, divs_length L k]
theorem nots_length (L : List Bool) : ∀ j, (nots L j).length = L.length
  | 0 => rfl
  | j + 1 => by rw [nots, flipAt_length, nots_length L j]
theorem flipAt_get (L : List Bool) (i m : Nat) (hi : i < L.length) : (flipAt L i).getD m false = (L.getD m false ^^ decide (m = i)) := by
  unfold flipAt
  simp only [List.getD, List.getElem?_set]
  by_cases h : i = m
  · subst h; simp [hi]
  · rw [if_neg h]; simp [Ne.symm h]
theorem nots_get (L : List Bool) (m : Nat) : ∀ j, j ≤ L.length → (nots L j).getD m false = (L.getD m false ^^ decide (m < j))
  | 0, _ => by simp [nots]
  | j + 1, hj => by
    rw [nots, flipAt_get _ _ _ (by rw [nots_length]; omega), nots_get L m j (by omega)]
    by_cases h1 : m < j
    · simp [h1, show m < j + 1 by omega, show ¬ m = j by omega]
    · by_cases h2 : m = j
      · simp [h2]
      · simp [h1, h2, show ¬ m < j + 1 by omega]
/-- Bit 31 - p of the number stands for power p. -/
theorem flips_get (L : List Bool) (k m : Nat) (hk : k + 32 < L.length) : ∀ j, j ≤ 14 → (flips L k j).getD m false = (L.getD m false ^^ ((powers.take j).any fun p => decide (m = k + 32 - p)))
  | 0, _ => by simp [flips]
  | j + 1, hj => by
    rw [flips, flipAt_get _ _ _ (by rw [flips_length]; omega), flips_get L k m hk j (by omega)]
    have hp : j < powers.length := by simp [powers]; omega
    rw [List.take_succ_eq_append_getElem hp, List.any_append]
    have hg : powers.getD j 0 = powers[j] := by simp [List.getD, hp]
    rw [hg]
    simp only [List.any_cons, List.any_nil, Bool.or_false]
    by_cases h2 : m = k + 32 - powers[j]
    · have h1 : ((powers.take j).any fun p => decide (m = k + 32 - p)) = false := by
        rw [List.any_eq_false]
        intro p hp'
        obtain ⟨i, hi, rfl⟩ := List.mem_iff_getElem.1 hp'
        rw [List.length_take] at hi
        rw [List.getElem_take]
        have hd : ∀ a b : Fin 14, a < b → powers.getD a 0 ≠ powers.getD b 0 ∧ powers.getD a 0 ≤ 26 ∧ powers.getD b 0 ≤ 26 := by decide
        have := hd ⟨i, by omega⟩ ⟨j, by omega⟩ (by show i < j; omega)
        simp only [List.getD, hp, List.getElem?_eq_getElem, Option.getD_some, show i < powers.length by omega] at this
        simp only [decide_eq_true_eq]
        omega
      rw [h1]; simp [h2]
    · simp [h2]
theorem rev_bits : ∀ j : Fin 32, Nat.testBit 3988292384 j = powers.any fun p => decide ((j : Nat) = 31 - p) := by decide
/-- The register behind k bits. -/
def regK (xs : List UInt8) (k : Nat) : Nat := run 4294967295 ((bitsL xs).take k)
theorem regK_lt (xs : List UInt8) (k : Nat) : regK xs k < 4294967296 := run_lt _ (by decide)
theorem regK_succ (xs : List UInt8) (k : Nat) (h : k < (bitsL xs).length) : regK xs (k + 1) = stepBit (regK xs k) ((bitsL xs).getD k false) := by
  unfold regK
  rw [List.take_succ_eq_append_getElem h, run_append]
  simp [run, List.getD, h]
theorem step_bit (c : Nat) (b : Bool) (hc : c < 4294967296) (j : Nat) (hj : j < 32) : (stepBit c b).testBit j = (c.testBit (j + 1) ^^ ((c.testBit 0 ^^ b) && Nat.testBit 3988292384 j)) := by
  unfold stepBit crc1
  rw [Nat.testBit_xor]
  have h1 : ((c ^^^ b.toNat) / 2).testBit j = c.testBit (j + 1) := by
    rw [← Nat.testBit_succ, Nat.testBit_xor]
    have : b.toNat.testBit (j + 1) = false := by cases b <;> simp [Nat.testBit_succ]
    rw [this, Bool.xor_false]
  have h2 : (c ^^^ b.toNat) % 2 = (c.testBit 0 ^^ b).toNat := by
    rw [xor_par, Nat.testBit_zero]
    rcases Nat.mod_two_eq_zero_or_one c with h | h <;> cases b <;> simp [h]
  rw [h1, h2]
  cases (c.testBit 0 ^^ b) <;> simp
theorem divs_get (xs : List UInt8) : ∀ k, k ≤ 8 * xs.length → ∀ m, k ≤ m → m < 8 * xs.length + 32 →
    (divs (nots (bitsL xs ++ List.replicate 32 false) 32) k).getD m false = ((bitsL xs).getD m false ^^ (decide (m < k + 32) && (regK xs k).testBit (m - k)))
  | 0, _, m, _, hm => by
    rw [divs, nots_get _ _ _ (by simp)]
    have e : (bitsL xs ++ List.replicate 32 false).getD m false = (bitsL xs).getD m false := by
      simp only [List.getD, List.getElem?_append]
      split
      · rfl
      · rename_i h
        rw [List.getElem?_replicate, List.getElem?_eq_none (by omega)]
        split <;> rfl
    rw [e, Nat.sub_zero, Nat.zero_add]
    have : regK xs 0 = 4294967295 := by simp [regK, run]
    rw [this]
    by_cases h : m < 32
    · have hb : ∀ j : Fin 32, Nat.testBit 4294967295 j = true := by decide
      rw [hb ⟨m, h⟩]; simp [h]
    · simp [h]
  | k + 1, hk, m, hm, hml => by
    have hbl := bitsL_length xs
    have hL : (divs (nots (bitsL xs ++ List.replicate 32 false) 32) k).length = 8 * xs.length + 32 := by rw [divs_length, nots_length]; simp [hbl]
    have ih := divs_get xs k (by omega)
    have ihk := ih k (by omega) (by omega)
    have ihm := ih m (by omega) hml
    rw [Nat.sub_self, decide_eq_true (show k < k + 32 by omega), Bool.true_and] at ihk
    rw [regK_succ xs k (by omega)]
    rw [divs]
    unfold divStep
    generalize divs (nots (bitsL xs ++ List.replicate 32 false) 32) k = L at *
    have hc := regK_lt xs k
    generalize regK xs k = c at *
    generalize hb0 : (bitsL xs).getD k false = b at *
    by_cases ht : L.getD k false = true
    · rw [if_pos ht, flips_get _ _ _ (by rw [List.length_set]; omega) 14 (by decide)]
      have e1 : (L.set k false).getD m false = L.getD m false := by
        simp only [List.getD, List.getElem?_set]
        rw [if_neg (by omega)]
      rw [e1, ihm]
      have e2 : (c.testBit 0 ^^ b) = true := by rw [← ht, ihk, Bool.xor_comm]
      by_cases hw : m < k + 1 + 32
      · rw [decide_eq_true hw, Bool.true_and, step_bit c b hc _ (by omega), e2, Bool.true_and]
        have hr := rev_bits ⟨m - (k + 1), by omega⟩
        have e3 : (powers.take 14).any (fun p => decide (m = k + 32 - p)) = Nat.testBit 3988292384 (m - (k + 1)) := by
          rw [hr]
          show powers.any _ = powers.any _
          apply Bool.eq_iff_iff.2
          simp only [List.any_eq_true, decide_eq_true_eq]
          have hp : ∀ p ∈ powers, p ≤ 26 := by decide
          constructor
          · rintro ⟨p, h1, h2⟩; exact ⟨p, h1, by have := hp p h1; omega⟩
          · rintro ⟨p, h1, h2⟩; exact ⟨p, h1, by have := hp p h1; omega⟩
        rw [e3]
        by_cases h3 : m < k + 32
        · rw [decide_eq_true h3, Bool.true_and, show m - (k + 1) + 1 = m - k by omega, Bool.xor_assoc]
        · have : m - (k + 1) + 1 = 32 := by omega
          rw [decide_eq_false h3, this, Nat.testBit_lt_two_pow (i := 32) (by exact hc)]
          simp
      · rw [decide_eq_false hw, decide_eq_false (show ¬ m < k + 32 by omega)]
        have e3 : (powers.take 14).any (fun p => decide (m = k + 32 - p)) = false := by
          rw [List.any_eq_false]
          intro p _
          simp only [decide_eq_true_eq]
          omega
        rw [e3]; simp
    · rw [if_neg ht, ihm]
      have e2 : (c.testBit 0 ^^ b) = false := by rw [Bool.xor_comm, ← ihk]; simpa using ht
      by_cases hw : m < k + 1 + 32
      · rw [decide_eq_true hw, Bool.true_and, step_bit c b hc _ (by omega), e2, Bool.false_and, Bool.xor_false]
        by_cases h3 : m < k + 32
        · rw [decide_eq_true h3, Bool.true_and, show m - (k + 1) + 1 = m - k by omega]
        · have : m - (k + 1) + 1 = 32 := by omega
          rw [decide_eq_false h3, this, Nat.testBit_lt_two_pow (i := 32) (by exact hc)]
          simp
      · rw [decide_eq_false hw, decide_eq_false (show ¬ m < k + 32 by omega)]
        rfl
theorem tailNum_of (c : Nat) (L : List Bool) (n : Nat) (hL : L.length = n + 32) (h : ∀ j, j < 32 → L.getD (n + j) false = c.testBit j) : ∀ j, j ≤ 32 → tailNum L j + c / 2 ^ (32 - j) % 2 ^ j = 2 ^ j - 1
  | 0, _ => by simp [tailNum, Nat.mod_one]
  | j + 1, hj => by
    have ih := tailNum_of c L n hL h j (by omega)
    have hb := h (31 - j) (by omega)
    rw [tailNum, show L.length - 1 - j = n + (31 - j) by omega, hb]
    have hd : c / 2 ^ (32 - j) = c / 2 ^ (32 - (j + 1)) / 2 := by rw [Nat.div_div_eq_div_mul, ← Nat.pow_succ, show (32 - (j + 1)).succ = 32 - j by omega]
    rw [hd] at ih
    have ht : c.testBit (31 - j) = decide (c / 2 ^ (32 - (j + 1)) % 2 = 1) := by rw [Nat.testBit_eq_decide_div_mod_eq, show 32 - (j + 1) = 31 - j by omega]
    rw [ht]
    generalize c / 2 ^ (32 - (j + 1)) = y at *
    have hm : y % 2 ^ (j + 1) = y % 2 + 2 * (y / 2 % 2 ^ j) := by rw [Nat.pow_succ, Nat.mul_comm (2 ^ j) 2, Nat.mod_mul]
    have hp : 0 < 2 ^ j := Nat.two_pow_pos j
    rw [hm, Nat.pow_succ]
    generalize y / 2 % 2 ^ j = u at *
    rcases Nat.mod_two_eq_zero_or_one y with h2 | h2 <;> rw [h2] <;> simp <;> omega
theorem crcRef_eq (xs : List UInt8) : crcRef xs = crcOf xs := by
  have hbl := bitsL_length xs
  have h := tailNum_of (regK xs (8 * xs.length)) (divs (nots (bitsL xs ++ List.replicate 32 false) 32) (8 * xs.length)) (8 * xs.length) (by rw [divs_length, nots_length]; simp [hbl]) (fun j hj => by
    rw [divs_get xs _ (Nat.le_refl _) _ (by omega) (by omega), decide_eq_true (show 8 * xs.length + j < 8 * xs.length + 32 by omega), Bool.true_and, show 8 * xs.length + j - 8 * xs.length = j by omega]
    simp only [List.getD]
    rw [List.getElem?_eq_none (by omega)]
    simp) 32 (by decide)
  have hr : regK xs (8 * xs.length) = crcL 4294967295 xs := by unfold regK; rw [List.take_of_length_le (by omega), ← crcL_run]
  rw [hr] at h
  have := crcL_lt xs (c := 4294967295) (by decide)
  unfold crcRef crcOf
  rw [Nat.sub_self, Nat.pow_zero, Nat.div_one, Nat.mod_eq_of_lt (by exact this)] at h
  omega
end Go.Proofs.YtejbookaflnpeaaDoor
