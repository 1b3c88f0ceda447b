/- CRC-32 bit by bit: plain mathematics. -/
import Derived.Test.YtejbookaflnpeabDoorRows
namespace Go.Proofs.YtejbookaflnpeabDoor
set_option linter.unusedVariables false

/-- One step of the register. -/
def crc1 (c : Nat) : Nat := c / 2 ^^^ 3988292384 * (c % 2)
theorem crc1_lt {c : Nat} (h : c < 4294967296) : crc1 c < 4294967296 := by
  unfold crc1
  refine Nat.xor_lt_two_pow (n := 32) (by omega) ?_
  have : c % 2 < 2 := Nat.mod_lt _ (by decide)
  omega
theorem xor_half (x y : Nat) : (x ^^^ y) / 2 = x / 2 ^^^ y / 2 := by
  have h := Nat.shiftRight_xor_distrib (a := x) (b := y) (i := 1)
  simpa [Nat.shiftRight_succ] using h
theorem xor_par (x y : Nat) : (x ^^^ y) % 2 = (x % 2 + y % 2) % 2 := by
  have h : (x ^^^ y) % 2 = x % 2 ^^^ y % 2 := by
    have := Nat.xor_mod_two_pow (a := x) (b := y) (n := 1)
    simpa using this
  rw [h]
  rcases Nat.mod_two_eq_zero_or_one x with hx | hx <;> rcases Nat.mod_two_eq_zero_or_one y with hy | hy <;> rw [hx, hy] <;> rfl
theorem xor_swap (a b c d : Nat) : a ^^^ b ^^^ (c ^^^ d) = a ^^^ c ^^^ (b ^^^ d) := by
  rw [Nat.xor_assoc, Nat.xor_assoc, ← Nat.xor_assoc b c d, Nat.xor_comm b c, Nat.xor_assoc c b d]
theorem crc1_xor (x y : Nat) : crc1 (x ^^^ y) = crc1 x ^^^ crc1 y := by
  unfold crc1
  rw [xor_half, xor_par, xor_swap]
  congr 1
  rcases Nat.mod_two_eq_zero_or_one x with hx | hx <;> rcases Nat.mod_two_eq_zero_or_one y with hy | hy <;> rw [hx, hy] <;> simp
theorem crc1_zero : crc1 0 = 0 := by decide
theorem crc1_even (x : Nat) : crc1 (2 * x) = x := by
  unfold crc1
  rw [Nat.mul_div_cancel_left x (by decide), Nat.mul_mod_right, Nat.mul_zero, Nat.xor_zero]
theorem crc1_ne {c : Nat} (h : c < 4294967296) (h0 : c ≠ 0) : crc1 c ≠ 0 := by
  unfold crc1
  intro e
  rcases Nat.mod_two_eq_zero_or_one c with hc | hc
  · rw [hc, Nat.mul_zero, Nat.xor_zero] at e; omega
  · rw [hc, Nat.mul_one] at e
    have h31 := congrArg (fun z => Nat.testBit z 31) e
    simp only [Nat.testBit_xor, Nat.zero_testBit] at h31
    have h1 : (c / 2).testBit 31 = false := Nat.testBit_lt_two_pow (by omega)
    rw [h1] at h31
    revert h31
    decide

def crcN : Nat → Nat → Nat
  | 0, c => c
  | k + 1, c => crcN k (crc1 c)
theorem crcN_lt : ∀ (k : Nat) {c : Nat}, c < 4294967296 → crcN k c < 4294967296
  | 0, _, h => h
  | k + 1, _, h => crcN_lt k (crc1_lt h)
theorem crcN_xor : ∀ k x y, crcN k (x ^^^ y) = crcN k x ^^^ crcN k y
  | 0, _, _ => rfl
  | k + 1, x, y => by rw [crcN, crc1_xor, crcN_xor k]; rfl
theorem crcN_ne : ∀ (k : Nat) {c : Nat}, c < 4294967296 → c ≠ 0 → crcN k c ≠ 0
  | 0, _, _, h => h
  | k + 1, _, h, h0 => crcN_ne k (crc1_lt h) (crc1_ne h h0)
theorem crcN_zero : ∀ k, crcN k 0 = 0
  | 0 => rfl
  | k + 1 => by rw [crcN, crc1_zero, crcN_zero k]
theorem crcN_succ : ∀ k c, crcN (k + 1) c = crc1 (crcN k c)
  | 0, _ => rfl
  | k + 1, c => by rw [crcN, crcN_succ k (crc1 c)]; rfl

/-- A bit more. -/
def stepBit (c : Nat) (b : Bool) : Nat := crc1 (c ^^^ b.toNat)
def run (c : Nat) (L : List Bool) : Nat := L.foldl stepBit c
def ofBits : List Bool → Nat
  | [] => 0
  | b :: L => b.toNat + 2 * ofBits L
theorem ofBits_lt : ∀ L : List Bool, ofBits L < 2 ^ L.length
  | [] => by simp [ofBits]
  | b :: L => by
    have := ofBits_lt L
    have hb : b.toNat ≤ 1 := Bool.toNat_le b
    rw [List.length_cons, Nat.pow_succ]
    unfold ofBits
    omega
theorem bit_split (b : Bool) (n : Nat) : b.toNat + 2 * n = b.toNat ^^^ 2 * n := by
  cases b
  · simp
  · rw [show (true.toNat : Nat) = 1 from rfl]
    apply Nat.eq_of_testBit_eq
    intro i
    rw [Nat.testBit_xor, Nat.add_comm]
    cases i with
    | zero => simp [Nat.testBit_zero]
    | succ i => simp [Nat.testBit_succ]; congr 1; omega
theorem run_N : ∀ (L : List Bool) (c : Nat), run c L = crcN L.length (c ^^^ ofBits L)
  | [], c => by simp [run, crcN, ofBits]
  | b :: L, c => by
    show run (stepBit c b) L = _
    rw [run_N L]
    show crcN L.length (crc1 (c ^^^ b.toNat) ^^^ ofBits L) = crcN L.length (crc1 (c ^^^ (b.toNat + 2 * ofBits L)))
    rw [bit_split, ← Nat.xor_assoc, crc1_xor (c ^^^ b.toNat), crc1_even]
theorem run_lt (L : List Bool) {c : Nat} (h : c < 4294967296) : run c L < 4294967296 := by
  induction L generalizing c with
  | nil => exact h
  | cons b L ih =>
    refine ih (crc1_lt ?_)
    have hb : b.toNat ≤ 1 := Bool.toNat_le b
    exact Nat.xor_lt_two_pow (n := 32) h (by omega)
theorem run_append (c : Nat) (L M : List Bool) : run c (L ++ M) = run (run c L) M := by simp [run]
theorem run_xor : ∀ (L M : List Bool) (c d : Nat), L.length = M.length → run (c ^^^ d) (List.zipWith Bool.xor L M) = run c L ^^^ run d M
  | [], [], _, _, _ => rfl
  | b :: L, b' :: M, c, d, h => by
    show run (stepBit (c ^^^ d) (b ^^ b')) (List.zipWith Bool.xor L M) = run (stepBit c b) L ^^^ run (stepBit d b') M
    rw [← run_xor L M _ _ (by simpa using h)]
    congr 1
    unfold stepBit
    rw [← crc1_xor, xor_swap]
    congr 2
    cases b <;> cases b' <;> rfl
  | [], _ :: _, _, _, h => by simp at h
  | _ :: _, [], _, _, h => by simp at h
theorem run_false (c : Nat) : ∀ n, run c (List.replicate n false) = crcN n c := by
  intro n
  rw [run_N]
  have : ∀ n, ofBits (List.replicate n false) = 0 := by
    intro n
    induction n with
    | zero => rfl
    | succ n ih => simp [List.replicate_succ, ofBits, ih]
  rw [this, List.length_replicate, Nat.xor_zero]
theorem ofBits_ne {L : List Bool} (h : true ∈ L) : ofBits L ≠ 0 := by
  induction L with
  | nil => cases h
  | cons b L ih =>
    unfold ofBits
    rcases List.mem_cons.1 h with rfl | h
    · simp
    · have := ih h; omega
/-- Up to 32 bits in a row that are not all 0 leave something. -/
theorem run_burst (a z : Nat) (W : List Bool) (hW : W.length ≤ 32) (h : true ∈ W) : run 0 (List.replicate a false ++ W ++ List.replicate z false) ≠ 0 := by
  rw [run_append, run_append, run_false, run_false, crcN_zero, run_N, Nat.zero_xor]
  have hlt : ofBits W < 4294967296 := Nat.lt_of_lt_of_le (ofBits_lt W) (Nat.pow_le_pow_right (n := 2) (by decide) hW)
  exact crcN_ne _ (crcN_lt _ hlt) (crcN_ne _ hlt (ofBits_ne h))

def byteBits (x : UInt8) : List Bool := (List.range 8).map fun k => x.toNat.testBit k
def bitsL (xs : List UInt8) : List Bool := xs.flatMap byteBits
def crcB (c : Nat) (x : UInt8) : Nat := crcN 8 (c ^^^ x.toNat)
def crcL (c : Nat) (xs : List UInt8) : Nat := xs.foldl crcB c
theorem byteBits_num (x : UInt8) : ofBits (byteBits x) = x.toNat := by
  have h := x.toNat_lt
  simp only [byteBits, List.range_succ, List.range_zero, List.nil_append, List.cons_append, List.map_cons, List.map_nil, ofBits]
  generalize x.toNat = n at h
  have t : ∀ k, (n.testBit k).toNat = n / 2 ^ k % 2 := fun k => Nat.toNat_testBit n k
  simp only [t]
  omega
theorem crcB_run (c : Nat) (x : UInt8) : crcB c x = run c (byteBits x) := by
  rw [run_N, byteBits_num]; simp [crcB, byteBits]
theorem crcL_run : ∀ (xs : List UInt8) (c : Nat), crcL c xs = run c (bitsL xs)
  | [], _ => rfl
  | x :: xs, c => by
    show crcL (crcB c x) xs = _
    rw [crcL_run xs, crcB_run]
    simp [bitsL, run_append]
theorem crcL_append (c : Nat) (xs ys : List UInt8) : crcL c (xs ++ ys) = crcL (crcL c xs) ys := by simp [crcL]
theorem crcB_lt {c : Nat} (h : c < 4294967296) (x : UInt8) : crcB c x < 4294967296 :=
  crcN_lt 8 (Nat.xor_lt_two_pow (n := 32) h (by have := x.toNat_lt; omega))
theorem crcL_lt : ∀ (xs : List UInt8) {c : Nat}, c < 4294967296 → crcL c xs < 4294967296
  | [], _, h => h
  | x :: xs, c, h => crcL_lt xs (crcB_lt h x)
def crcOf (xs : List UInt8) : Nat := 4294967295 - crcL 4294967295 xs
theorem byteBits_inj {x y : UInt8} (h : byteBits x = byteBits y) : x = y := by
  apply UInt8.toNat_inj.1
  rw [← byteBits_num, ← byteBits_num, h]
theorem bitsL_length (xs : List UInt8) : (bitsL xs).length = 8 * xs.length := by
  induction xs with
  | nil => rfl
  | cons x xs ih => simp [bitsL, byteBits] at ih ⊢; omega
theorem bitsL_inj : ∀ {xs ys : List UInt8}, bitsL xs = bitsL ys → xs = ys
  | [], [], _ => rfl
  | x :: xs, y :: ys, h => by
    have h' : byteBits x ++ bitsL xs = byteBits y ++ bitsL ys := h
    obtain ⟨h1, h2⟩ := List.append_inj h' (by simp [byteBits])
    rw [byteBits_inj h1, bitsL_inj h2]
  | [], y :: ys, h => by have := congrArg List.length h; simp [bitsL_length] at this
  | x :: xs, [], h => by have := congrArg List.length h; simp [bitsL_length] at this
theorem bitsL_get (xs : List UInt8) (m : Nat) (h : m < 8 * xs.length) : (bitsL xs)[m]? = some ((xs.getD (m / 8) 0).toNat.testBit (m % 8)) := by
  induction xs generalizing m with
  | nil => simp at h
  | cons x xs ih =>
    have e : bitsL (x :: xs) = byteBits x ++ bitsL xs := rfl
    rw [e]
    by_cases hm : m < 8
    · rw [List.getElem?_append_left (by simp [byteBits]; exact hm), show m / 8 = 0 by omega, show m % 8 = m by omega]
      simp [byteBits, hm]
    · rw [List.getElem?_append_right (by simp [byteBits]; omega)]
      have hl : (byteBits x).length = 8 := by simp [byteBits]
      rw [hl, ih (m - 8) (by simp only [List.length_cons] at h; omega)]
      have e1 : m / 8 = (m - 8) / 8 + 1 := by omega
      have e2 : m % 8 = (m - 8) % 8 := by omega
      rw [e1, e2, List.getD_cons_succ]
/-- Bytes of the same number that differ in up to 32 bits in a row alone, and have the same CRC-32, are the same. -/
theorem crc_sees {xs ys : List UInt8} (hl : xs.length = ys.length) (a : Nat) (hd : ∀ m, m < 8 * xs.length → (m < a ∨ a + 32 ≤ m) → (bitsL xs)[m]? = (bitsL ys)[m]?) (h : crcOf xs = crcOf ys) : xs = ys := by
  have h1 := crcL_lt xs (c := 4294967295) (by decide)
  have h2 := crcL_lt ys (c := 4294967295) (by decide)
  have he : crcL 4294967295 xs = crcL 4294967295 ys := by unfold crcOf at h; omega
  rw [crcL_run, crcL_run] at he
  have hbl : (bitsL xs).length = (bitsL ys).length := by rw [bitsL_length, bitsL_length, hl]
  have hx := run_xor (bitsL xs) (bitsL ys) 4294967295 4294967295 hbl
  rw [he, Nat.xor_self, Nat.xor_self] at hx
  obtain ⟨D, hD⟩ : ∃ D, D = List.zipWith Bool.xor (bitsL xs) (bitsL ys) := ⟨_, rfl⟩
  rw [← hD] at hx
  have hDl : D.length = 8 * xs.length := by rw [hD, List.length_zipWith, ← hbl, Nat.min_self, bitsL_length]
  have hDg : ∀ m, m < D.length → (m < a ∨ a + 32 ≤ m) → D[m]? = some false := by
    intro m hm ho
    have := hd m (by omega) ho
    have hmx : m < (bitsL xs).length := by rw [bitsL_length]; omega
    rw [hD, List.getElem?_zipWith, ← this, List.getElem?_eq_getElem hmx]
    simp
  by_cases hex : true ∈ (D.drop a).take 32
  · exfalso
    refine run_burst (D.take a).length (D.drop (a + 32)).length ((D.drop a).take 32) (by simp; omega) hex ?_
    rw [← hx]
    congr 1
    have e1 : List.replicate (D.take a).length false = D.take a := by
      refine (List.eq_replicate_iff.2 ⟨rfl, fun b hb => ?_⟩).symm
      obtain ⟨m, hm, rfl⟩ := List.mem_iff_getElem.1 hb
      have hm' : m < a ∧ m < D.length := by rw [List.length_take] at hm; omega
      have := hDg m hm'.2 (.inl hm'.1)
      rw [List.getElem?_eq_getElem hm'.2] at this
      rw [List.getElem_take]
      exact Option.some.inj this
    have e2 : List.replicate (D.drop (a + 32)).length false = D.drop (a + 32) := by
      refine (List.eq_replicate_iff.2 ⟨rfl, fun b hb => ?_⟩).symm
      obtain ⟨m, hm, rfl⟩ := List.mem_iff_getElem.1 hb
      have hm' : a + 32 + m < D.length := by simp at hm; omega
      have := hDg (a + 32 + m) hm' (.inr (by omega))
      rw [List.getElem?_eq_getElem hm'] at this
      rw [List.getElem_drop]
      exact Option.some.inj this
    rw [e1, e2, List.append_assoc, ← List.drop_drop, List.take_append_drop, List.take_append_drop]
  · apply bitsL_inj
    apply List.ext_getElem? 
    intro m
    by_cases hm : m < 8 * xs.length
    · by_cases ho : m < a ∨ a + 32 ≤ m
      · exact hd m hm ho
      · have hmx : m < (bitsL xs).length := by rw [bitsL_length]; exact hm
        have hmy : m < (bitsL ys).length := by omega
        have hmD : m < D.length := by omega
        have hin : D[m] ∈ (D.drop a).take 32 := by
          rw [List.mem_iff_getElem]
          refine ⟨m - a, by simp; omega, ?_⟩
          rw [List.getElem_take, List.getElem_drop]
          congr 1
          omega
        have hf : D[m] = false := by
          cases hb : D[m] with
          | false => rfl
          | true => rw [hb] at hin; exact absurd hin hex
        have hz : ((bitsL xs)[m] ^^ (bitsL ys)[m]) = false := by
          rw [← hf]
          simp only [hD, List.getElem_zipWith]
        rw [List.getElem?_eq_getElem hmx, List.getElem?_eq_getElem hmy]
        congr 1
        revert hz
        cases (bitsL xs)[m] <;> cases (bitsL ys)[m] <;> decide
    · rw [List.getElem?_eq_none (by rw [bitsL_length]; omega), List.getElem?_eq_none (by rw [bitsL_length]; omega)]
end Go.Proofs.YtejbookaflnpeabDoor
