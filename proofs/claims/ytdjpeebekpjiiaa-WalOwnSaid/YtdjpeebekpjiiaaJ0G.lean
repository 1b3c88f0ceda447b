/- CRC-32 bit by bit: plain mathematics. -/
import Derived.Test.YtdjpeebekpjiiaaRows
import Derived.Test.YtdjpeebekpjiiaaJ0E
import Derived.WalkKit
import Derived.WalkLawsBesides
import Derived.WalkSpells
import Derived.Handy
import Derived.Lib.Hide
import Derived.Outline
import Derived.Laws.Rows
import Derived.Laws.Tables
import Derived.Laws.CopyOwn
import Derived.Deep.MidRow
import Derived.Deep.QuietTactic
import Derived.BigQuiet
import Derived.Deep.RegionWith
import Derived.Deep.CutBlock
import Derived.Deep.DeepCutAuto
import Derived.Deep.RegionHeld3
import Derived.Deep.AppendSrc
import Derived.Test.YtdjpeebekpjiiaaJ0B
namespace Go.Proofs.Ytdjpeebekpjiiaa
set_option linter.unusedVariables false

/-- One step of the register. -/
def crc1 (c : Nat) : Nat := c / 2 ^^^ 3988292384 * (c % 2)
theorem crc1_lt {c : Nat} (h : c < 4294967296) : crc1 c < 4294967296 := by
  unfold crc1
  refine Nat.xor_lt_two_pow (n := 32) (by omega) ?_
  have : c % 2 < 2 := Nat.mod_lt _ (by decide)
  omega
theorem xor_half (x y : Nat) : (x ^^^ y) / 2 = x / 2 ^^^ y / 2 := by
  have h := Nat.shiftRight_xor_distrib (a := x) (b := y) (i := 1)
  simpa [Nat.shiftRight_succ] using h
theorem xor_par (x y : Nat) : (x ^^^ y) % 2 = (x % 2 + y % 2) % 2 := by
  have h : (x ^^^ y) % 2 = x % 2 ^^^ y % 2 := by
    have := Nat.xor_mod_two_pow (a := x) (b := y) (n := 1)
    simpa using this
  rw [h]
  rcases Nat.mod_two_eq_zero_or_one x with hx | hx <;> rcases Nat.mod_two_eq_zero_or_one y with hy | hy <;> rw [hx, hy] <;> rfl
theorem xor_swap (a b c d : Nat) : a ^^^ b ^^^ (c ^^^ d) = a ^^^ c ^^^ (b ^^^ d) := by
  rw [Nat.xor_assoc, Nat.xor_assoc, ← Nat.xor_assoc b c d, Nat.xor_comm b c, Nat.xor_assoc c b d]
theorem crc1_xor (x y : Nat) : crc1 (x ^^^ y) = crc1 x ^^^ crc1 y := by
  unfold crc1
  rw [xor_half, xor_par, xor_swap]
  congr 1
  rcases Nat.mod_two_eq_zero_or_one x with hx | hx <;> rcases Nat.mod_two_eq_zero_or_one y with hy | hy <;> rw [hx, hy] <;> simp
theorem crc1_zero : crc1 0 = 0 := by decide
theorem crc1_even (x : Nat) : crc1 (2 * x) = x := by
  unfold crc1
  rw [Nat.mul_div_cancel_left x (by decide), Nat.mul_mod_right, Nat.mul_zero, Nat.xor_zero]
theorem crc1_ne {c : Nat} (h : c < 4294967296) (h0 : c ≠ 0) : crc1 c ≠ 0 := by
  unfold crc1
  intro e
  rcases Nat.mod_two_eq_zero_or_one c with hc | hc
  · rw [hc, Nat.mul_zero, Nat.xor_zero] at e; omega
  · rw [hc, Nat.mul_one] at e
    have h31 := congrArg (fun z => Nat.testBit z 31) e
    simp only [Nat.testBit_xor, Nat.zero_testBit] at h31
    have h1 : (c / 2).testBit 31 = false := Nat.testBit_lt_two_pow (by omega)
    rw [h1] at h31
    revert h31
    decide

def crcN : Nat → Nat → Nat
  | 0, c => c
  | k + 1, c => crcN k (crc1 c)
theorem crcN_lt : ∀ (k : Nat) {c : Nat}, c < 4294967296 → crcN k c < 4294967296
  | 0, _, h => h
  | k + 1, _, h => crcN_lt k (crc1_lt h)
theorem crcN_xor : ∀ k x y, crcN k (x ^^^ y) = crcN k x ^^^ crcN k y
  | 0, _, _ => rfl
  | k + 1, x, y => by rw [crcN, crc1_xor, crcN_xor k]; rfl
theorem crcN_ne : ∀ (k : Nat) {c : Nat}, c < 4294967296 → c ≠ 0 → crcN k c ≠ 0
  | 0, _, _, h => h
  | k + 1, _, h, h0 => crcN_ne k (crc1_lt h) (crc1_ne h h0)
theorem crcN_zero : ∀ k, crcN k 0 = 0
  | 0 => rfl
  | k + 1 => by rw [crcN, crc1_zero, crcN_zero k]
theorem crcN_succ : ∀ k c, crcN (k + 1) c = crc1 (crcN k c)
  | 0, _ => rfl
  | k + 1, c => by rw [crcN, crcN_succ k (crc1 c)]; rfl

/-- A bit more. -/
def stepBit (c : Nat) (b : Bool) : Nat := crc1 (c ^^^ b.toNat)
def run (c : Nat) (L : List Bool) : Nat := L.foldl stepBit c
def ofBits : List Bool → Nat
  | [] => 0
  | b :: L => b.toNat + 2 * ofBits L
theorem ofBits_lt : ∀ L : List Bool, ofBits L < 2 ^ L.length
  | [] => by simp [ofBits]
  | b :: L => by
    have := ofBits_lt L
    have hb : b.toNat ≤ 1 := Bool.toNat_le b
    rw [List.length_cons, Nat.pow_succ]
    unfold ofBits
    omega
theorem bit_split (b : Bool) (n : Nat) : b.toNat + 2 * n = b.toNat ^^^ 2 * n := by
  cases b
  · simp
  · rw [show (true.toNat : Nat) = 1 from rfl]
    apply Nat.eq_of_testBit_eq
    intro i
    rw [Nat.testBit_xor, Nat.add_comm]
    cases i with
    | zero => simp [Nat.testBit_zero]
    | succ i => simp [Nat.testBit_succ]; congr 1; omega
theorem run_N : ∀ (L : List Bool) (c : Nat), run c L = crcN L.length (c ^^^ ofBits L)
  | [], c => by simp [run, crcN, ofBits]
  | b :: L, c => by
    show run (stepBit c b) L = _
    rw [run_N L]
    show crcN L.length (crc1 (c ^^^ b.toNat) ^^^ ofBits L) = crcN L.length (crc1 (c ^^^ (b.toNat + 2 * ofBits L)))
    rw [bit_split, ← Nat.xor_assoc, crc1_xor (c ^^^ b.toNat), crc1_even]
theorem run_lt (L : List Bool) {c : Nat} (h : c < 4294967296) : run c L < 4294967296 := by
  induction L generalizing c with
  | nil => exact h
  | cons b L ih =>
    refine ih (crc1_lt ?_)
    have hb : b.toNat ≤ 1 := Bool.toNat_le b
    exact Nat.xor_lt_two_pow (n := 32) h (by omega)
theorem run_append (c : Nat) (L M : List Bool) : run c (L ++ M) = run (run c L) M := by simp [run]
theorem run_xor : ∀ (L M : List Bool) (c d : Nat), L.length = M.length → run (c ^^^ d) (List.zipWith Bool.xor L M) = run c L ^^^ run d M
  | [], [], _, _, _ => rfl
  | b :: L, b' :: M, c, d, h => by
    show run (stepBit (c ^^^ d) (b ^^ b')) (List.zipWith Bool.xor L M) = run (stepBit c b) L ^^^ run (stepBit d b') M
    rw [← run_xor L M _ _ (by simpa using h)]
    congr 1
    unfold stepBit
    rw [← crc1_xor, xor_swap]
    congr 2
    cases b <;> cases b' <;> rfl
  | [], _ :: _, _, _, h => by simp at h
  | _ :: _, [], _, _, h => by simp at h
theorem run_false (c : Nat) : ∀ n, run c (List.replicate n false) = crcN n c := by
  intro n
  rw [run_N]
  have : ∀ n, ofBits (List.replicate n false) = 0 := by
    intro n
    induction n with
    | zero => rfl
    | succ n ih => simp [List.replicate_succ, ofBits, ih]
  rw [this, List.length_replicate, Nat.xor_zero]
theorem ofBits_ne {L : List Bool} (h : true ∈ L) : ofBits L ≠ 0 := by
  induction L with
  | nil => cases h
  | cons b L ih =>
    unfold ofBits
    rcases List.mem_cons.1 h with rfl | h
    · simp
    · have := ih h; omega
/-- Up to 32 bits in a row that are not all 0 leave something. -/
theorem run_burst (a z : Nat) (W : List Bool) (hW : W.length ≤ 32) (h : true ∈ W) : run 0 (List.replicate a false ++ W ++ List.replicate z false) ≠ 0 := by
  rw [run_append, run_append, run_false, run_false, crcN_zero, run_N, Nat.zero_xor]
  have hlt : ofBits W < 4294967296 := Nat.lt_of_lt_of_le (ofBits_lt W) (Nat.pow_le_pow_right (n := 2) (by decide) hW)
  exact crcN_ne _ (crcN_lt _ hlt) (crcN_ne _ hlt (ofBits_ne h))

def byteBits (x : UInt8) : List Bool := (List.range 8).map fun k => x.toNat.testBit k
def bitsL (xs : List UInt8) : List Bool := xs.flatMap byteBits
def crcB (c : Nat) (x : UInt8) : Nat := crcN 8 (c ^^^ x.toNat)
def crcL (c : Nat) (xs : List UInt8) : Nat := xs.foldl crcB c
theorem byteBits_num (x : UInt8) : ofBits (byteBits x) = x.toNat := by
  have h := x.toNat_lt
  simp only [byteBits, List.range_succ, List.range_zero, List.nil_append, List.cons_append, List.map_cons, List.map_nil, ofBits]
  generalize x.toNat = n at h
  have t : ∀ k, (n.testBit k).toNat = n / 2 ^ k % 2 := fun k => Nat.toNat_testBit n k
  simp only [t]
  omega
theorem crcB_run (c : Nat) (x : UInt8) : crcB c x = run c (byteBits x) := by
  rw [run_N, byteBits_num]; simp [crcB, byteBits]
theorem crcL_run : ∀ (xs : List UInt8) (c : Nat), crcL c xs = run c (bitsL xs)
  | [], _ => rfl
  | x :: xs, c => by
    show crcL (crcB c x) xs = _
    rw [crcL_run xs, crcB_run]
    simp [bitsL, run_append]
theorem crcL_append (c : Nat) (xs ys : List UInt8) : crcL c (xs ++ ys) = crcL (crcL c xs) ys := by simp [crcL]
theorem crcB_lt {c : Nat} (h : c < 4294967296) (x : UInt8) : crcB c x < 4294967296 :=
  crcN_lt 8 (Nat.xor_lt_two_pow (n := 32) h (by have := x.toNat_lt; omega))
theorem crcL_lt : ∀ (xs : List UInt8) {c : Nat}, c < 4294967296 → crcL c xs < 4294967296
  | [], _, h => h
  | x :: xs, c, h => crcL_lt xs (crcB_lt h x)
def crcOf (xs : List UInt8) : Nat := 4294967295 - crcL 4294967295 xs
theorem byteBits_inj {x y : UInt8} (h : byteBits x = byteBits y) : x = y := by
  apply UInt8.toNat_inj.1
  rw [← byteBits_num, ← byteBits_num, h]
theorem bitsL_length (xs : List UInt8) : (bitsL xs).length = 8 * xs.length := by
  induction xs with
  | nil => rfl
  | cons x xs ih => simp [bitsL, byteBits] at ih ⊢; omega
theorem bitsL_inj : ∀ {xs ys : List UInt8}, bitsL xs = bitsL ys → xs = ys
  | [], [], _ => rfl
  | x :: xs, y :: ys, h => by
    have h' : byteBits x ++ bitsL xs = byteBits y ++ bitsL ys := h
    obtain ⟨h1, h2⟩ := List.append_inj h' (by simp [byteBits])
    rw [byteBits_inj h1, bitsL_inj h2]
  | [], y :: ys, h => by have := congrArg List.length h; simp [bitsL_length] at this
  | x :: xs, [], h => by have := congrArg List.length h; simp [bitsL_length] at this
theorem bitsL_get (xs : List UInt8) (m : Nat) (h : m < 8 * xs.length) : (bitsL xs)[m]? = some ((xs.getD (m / 8) 0).toNat.testBit (m % 8)) := by
  induction xs generalizing m with
  | nil => simp at h
  | cons x xs ih =>
    have e : bitsL (x :: xs) = byteBits x ++ bitsL xs := rfl
    rw [e]
    by_cases hm : m < 8
    · rw [List.getElem?_append_left (by simp [byteBits]; exact hm), show m / 8 = 0 by omega, show m % 8 = m by omega]
      simp [byteBits, hm]
    · rw [List.getElem?_append_right (by simp [byteBits]; omega)]
      have hl : (byteBits x).length = 8 := by simp [byteBits]
      rw [hl, ih (m - 8) (by simp only [List.length_cons] at h; omega)]
      have e1 : m / 8 = (m - 8) / 8 + 1 := by omega
      have e2 : m % 8 = (m - 8) % 8 := by omega
      rw [e1, e2, List.getD_cons_succ]
/-- Bytes of the same number that differ in up to 32 bits in a row alone, and have the same CRC-32, are the same. -/
theorem crc_sees {xs ys : List UInt8} (hl : xs.length = ys.length) (a : Nat) (hd : ∀ m, m < 8 * xs.length → (m < a ∨ a + 32 ≤ m) → (bitsL xs)[m]? = (bitsL ys)[m]?) (h : crcOf xs = crcOf ys) : xs = ys := by
  have h1 := crcL_lt xs (c := 4294967295) (by decide)
  have h2 := crcL_lt ys (c := 4294967295) (by decide)
  have he : crcL 4294967295 xs = crcL 4294967295 ys := by unfold crcOf at h; omega
  rw [crcL_run, crcL_run] at he
  have hbl : (bitsL xs).length = (bitsL ys).length := by rw [bitsL_length, bitsL_length, hl]
  have hx := run_xor (bitsL xs) (bitsL ys) 4294967295 4294967295 hbl
  rw [he, Nat.xor_self, Nat.xor_self] at hx
  obtain ⟨D, hD⟩ : ∃ D, D = List.zipWith Bool.xor (bitsL xs) (bitsL ys) := ⟨_, rfl⟩
  rw [← hD] at hx
  have hDl : D.length = 8 * xs.length := by rw [hD, List.length_zipWith, ← hbl, Nat.min_self, bitsL_length]
  have hDg : ∀ m, m < D.length → (m < a ∨ a + 32 ≤ m) → D[m]? = some false := by
    intro m hm ho
    have := hd m (by omega) ho
    have hmx : m < (bitsL xs).length := by rw [bitsL_length]; omega
    rw [hD, List.getElem?_zipWith, ← this, List.getElem?_eq_getElem hmx]
    simp
  by_cases hex : true ∈ (D.drop a).take 32
  · exfalso
    refine run_burst (D.take a).length (D.drop (a + 32)).length ((D.drop a).take 32) (by simp; omega) hex ?_
    rw [← hx]
    congr 1
    have e1 : List.replicate (D.take a).length false = D.take a := by
      refine (List.eq_replicate_iff.2 ⟨rfl, fun b hb => ?_⟩).symm
      obtain ⟨m, hm, rfl⟩ := List.mem_iff_getElem.1 hb
      have hm' : m < a ∧ m < D.length := by rw [List.length_take] at hm; omega
      have := hDg m hm'.2 (.inl hm'.1)
      rw [List.getElem?_eq_getElem hm'.2] at this
      rw [List.getElem_take]
      exact Option.some.inj this
    have e2 : List.replicate (D.drop (a + 32)).length false = D.drop (a + 32) := by
      refine (List.eq_replicate_iff.2 ⟨rfl, fun b hb => ?_⟩).symm
      obtain ⟨m, hm, rfl⟩ := List.mem_iff_getElem.1 hb
      have hm' : a + 32 + m < D.length := by simp at hm; omega
      have := hDg (a + 32 + m) hm' (.inr (by omega))
      rw [List.getElem?_eq_getElem hm'] at this
      rw [List.getElem_drop]
      exact Option.some.inj this
    rw [e1, e2, List.append_assoc, ← List.drop_drop, List.take_append_drop, List.take_append_drop]
  · apply bitsL_inj
    apply List.ext_getElem? 
    intro m
    by_cases hm : m < 8 * xs.length
    · by_cases ho : m < a ∨ a + 32 ≤ m
      · exact hd m hm ho
      · have hmx : m < (bitsL xs).length := by rw [bitsL_length]; exact hm
        have hmy : m < (bitsL ys).length := by omega
        have hmD : m < D.length := by omega
        have hin : D[m] ∈ (D.drop a).take 32 := by
          rw [List.mem_iff_getElem]
          refine ⟨m - a, by simp; omega, ?_⟩
          rw [List.getElem_take, List.getElem_drop]
          congr 1
          omega
        have hf : D[m] = false := by
          cases hb : D[m] with
          | false => rfl
          | true => rw [hb] at hin; exact absurd hin hex
        have hz : ((bitsL xs)[m] ^^ (bitsL ys)[m]) = false := by
          rw [← hf]
          simp only [hD, List.getElem_zipWith]
        rw [List.getElem?_eq_getElem hmx, List.getElem?_eq_getElem hmy]
        congr 1
        revert hz
        cases (bitsL xs)[m] <;> cases (bitsL ys)[m] <;> decide
    · rw [List.getElem?_eq_none (by rw [bitsL_length]; omega), List.getElem?_eq_none (by rw [bitsL_length]; omega)]
end Go.Proofs.Ytdjpeebekpjiiaa
/- CRC-32 over parts, in the words of the disk's texts. -/
namespace Go.Proofs.Ytdjpeebekpjiiaa.Dk
open Go Go.RowKit
set_option linter.unusedVariables false
set_option linter.unusedSimpArgs false
theorem ofInt_u32w (n : Nat) (h : n < 4294967296) : (BitVec.ofInt 32 (n : Int)).toNat = n := by
  rw [BitVec.toNat_ofInt]; omega
theorem u32_and_natw (a b : Nat) (ha : a < 4294967296) (hb : b < 4294967296) : bits BinOp.and IntKind.u32 (a : Int) (b : Int) = ((a &&& b : Nat) : Int) := by
  have h : a &&& b < 4294967296 := Nat.lt_of_le_of_lt Nat.and_le_left ha
  show IntKind.u32.wrap ((BitVec.ofInt 32 (a : Int) &&& BitVec.ofInt 32 (b : Int)).toNat : Int) = _
  rw [BitVec.toNat_and, ofInt_u32w a ha, ofInt_u32w b hb, IntKind.wrap_u32]
  omega
theorem u32_xor_natw (a b : Nat) (ha : a < 4294967296) (hb : b < 4294967296) : bits BinOp.xor IntKind.u32 (a : Int) (b : Int) = ((a ^^^ b : Nat) : Int) := by
  have h : a ^^^ b < 4294967296 := Nat.xor_lt_two_pow (n := 32) ha hb
  show IntKind.u32.wrap ((BitVec.ofInt 32 (a : Int) ^^^ BitVec.ofInt 32 (b : Int)).toNat : Int) = _
  rw [BitVec.toNat_xor, ofInt_u32w a ha, ofInt_u32w b hb, IntKind.wrap_u32]
  omega
theorem ret_u32 {a b : Nat} (h : a = b) : Ending.returned (.int .u32 ((a : Nat) : Int)) = .returned (.int .u32 ((b : Nat) : Int)) := by rw [h]
def CbRel (c : Nat) (v u : Value) : Prop := ∃ k : Nat, u = .int .i64 (k : Int) ∧ k ≤ 8 ∧ v = .int .u32 ((crcN k c : Nat) : Int)
theorem crc1_walk {n : Nat} (h : n < 4294967296) : bits BinOp.xor IntKind.u32 ((n : Int) / 2) (3988292384 * bits BinOp.and IntKind.u32 (n : Int) 1 % 4294967296) = ((crc1 n : Nat) : Int) := by
  have h1 : bits BinOp.and IntKind.u32 (n : Int) 1 = ((n % 2 : Nat) : Int) := by
    have := u32_and_natw n 1 h (by decide)
    rw [show ((1 : Nat) : Int) = 1 from rfl] at this
    rw [this, Nat.and_one_is_mod]
  have h2 : (n : Int) / 2 = ((n / 2 : Nat) : Int) := by simp
  have h4 : n % 2 < 2 := Nat.mod_lt _ (by decide)
  have h3 : 3988292384 * ((n % 2 : Nat) : Int) % 4294967296 = ((3988292384 * (n % 2) : Nat) : Int) := by omega
  rw [h1, h2, h3, u32_xor_natw _ _ (by omega) (by omega)]
  rfl
set_option maxHeartbeats 1000000 in
theorem crcByte_any (c : Nat) (hc : c < 4294967296) (x : UInt8) (w : World) :
    Calls Try.prog 115 #[.int .u32 (c : Int), .int .u8 (x.toNat : Int)] w fun e w' => e = .returned (.int .u32 ((crcB c x : Nat) : Int)) ∧ w = w' := by
  have hx := x.toNat_lt
  have hz : c ^^^ x.toNat < 4294967296 := Nat.xor_lt_two_pow (n := 32) hc (by omega)
  have e1 : bits BinOp.xor IntKind.u32 (c : Int) (x.toNat : Int) = ((c ^^^ x.toNat : Nat) : Int) := u32_xor_natw _ _ hc (by omega)
  obtain ⟨z, hzz⟩ : ∃ z, z = c ^^^ x.toNat := ⟨_, rfl⟩
  have HZ := Lib.hid hzz
  rw [← hzz] at e1 hz
  clear hzz
  go_enter Try.func115, Try.ntmps115
  go_wp2
  go_loop [0, 9] (fun v u => CbRel z v u) (fun _ u => 8 - (intOf u).toNat)
  case atStart => exact ⟨0, rfl, Nat.zero_le _, by first | rfl | (rw [e1]; rfl)⟩
  case round =>
    obtain ⟨k, rfl, hk, rfl⟩ := hrel
    have hlt := crcN_lt k hz
    have hs := crcN_succ k z
    obtain ⟨n, hn⟩ : ∃ n, n = crcN k z := ⟨_, rfl⟩
    rw [← hn] at hlt hs
    rw [← hn]
    have HS := Lib.hid hs
    have HN := Lib.hid hn
    clear hs e1 hn
    by_cases h8 : k < 8
    · go_wp2
      go_round
      case rel => exact ⟨k + 1, by go_num, by omega, by rw [crc1_walk hlt, HS.out]⟩
      case measure => simp [intOf]; omega
    · obtain rfl : k = 8 := by omega
      go_wp2
      go_ret
      exact ⟨ret_u32 (by rw [HN.out, HZ.out]; rfl), rfl⟩

def CiRel (c : Nat) (xs : List UInt8) (v u : Value) : Prop := ∃ k : Nat, u = .int .i64 (k : Int) ∧ k ≤ xs.length ∧ v = .int .u32 ((crcL c (xs.take k) : Nat) : Int)
theorem not_u32 {n : Nat} (h : n < 4294967296) : bits BinOp.xor IntKind.u32 IntKind.u32.max (n : Int) = ((4294967295 - n : Nat) : Int) := by
  show IntKind.u32.wrap ((BitVec.ofInt 32 IntKind.u32.max ^^^ BitVec.ofInt 32 (n : Int)).toNat : Int) = _
  have h1 : BitVec.ofInt 32 IntKind.u32.max = BitVec.allOnes 32 := by decide
  rw [h1, BitVec.allOnes_xor, BitVec.toNat_not, ofInt_u32w n h, IntKind.wrap_u32]
  omega
def CoRel (L : List (List UInt8)) (v u : Value) : Prop := ∃ k : Nat, u = .int .i64 (k : Int) ∧ k ≤ L.length ∧ v = .int .u32 ((crcL 4294967295 (L.take k).flatten : Nat) : Int)
set_option maxHeartbeats 4000000 in
theorem crc_any {w : World} {ao : Option Addr} {c : Nat} {L : List (List UInt8)} (h : Parts w (.slice ao L.length c) L) (hL : L.length ≤ 1000000) (hX : ∀ p ∈ L, p.length ≤ 9223372036854775807) :
    Calls Try.prog 97 #[.slice ao L.length c] w fun e w' => e = .returned (.int .u32 ((crcOf L.flatten : Nat) : Int)) ∧ w = w' := by
  obtain ⟨ao', c', he, hs⟩ := h
  injection he with he1 he2 he3
  subst he1
  have HS0 := Lib.hid hs
  clear hs he2 he3
  go_enter Try.func97, Try.ntmps97
  go_wp2
  go_loop [3, 10] (fun v u => CoRel L v u) (fun _ u => L.length - (intOf u).toNat)
  case atStart => exact ⟨0, rfl, Nat.zero_le _, rfl⟩
  case round =>
    obtain ⟨k, rfl, hk, rfl⟩ := hrel
    have hlt := crcL_lt (L.take k).flatten (c := 4294967295) (by decide)
    obtain ⟨n, hn⟩ : ∃ n, n = crcL 4294967295 (L.take k).flatten := ⟨_, rfl⟩
    rw [← hn] at hlt ⊢
    have HN := Lib.hid hn
    clear hn
    by_cases hkl : k < L.length
    · obtain ⟨ad, rfl, aj, cj, cell, src⟩ := HS0.out k hkl
      have htk := flat_take (L := L) hkl
      obtain ⟨xs, hxs⟩ : ∃ xs, xs = L.getD k [] := ⟨_, rfl⟩
      rw [← hxs] at htk cell src
      have hxl := hX xs (by rw [hxs, List.getD, List.getElem?_eq_getElem hkl]; exact List.getElem_mem _)
      obtain ⟨ao1, c1, hv1, hno1, hs1⟩ := src
      injection hv1 with e1 e2 e3
      subst e1
      have HT := Lib.hid htk
      have HS1 := Lib.hid hs1
      have HNO := Lib.hid hno1
      have q1 : (k : Int) < (L.length : Int) := by omega
      have q0 : (0 : Int) ≤ (k : Int) := by omega
      clear hxs htk hs1 hno1 e2 e3
      go_wp2
      go_loop [3, 16] (fun v u => CiRel n xs v u) (fun _ u => xs.length - (intOf u).toNat)
      case atStart => exact ⟨0, rfl, Nat.zero_le _, rfl⟩
      case round =>
        obtain ⟨j, rfl, hj, rfl⟩ := hrel
        have hlt2 := crcL_lt (xs.take j) hlt
        obtain ⟨m, hm⟩ : ∃ m, m = crcL n (xs.take j) := ⟨_, rfl⟩
        rw [← hm] at hlt2 ⊢
        have HM := Lib.hid hm
        clear hm
        by_cases hjl : j < xs.length
        · obtain ⟨ad1, rfl⟩ : ∃ ad1, aj = some ad1 := by
            cases aj with
            | none => have := HNO.out rfl; rw [this] at hjl; simp at hjl
            | some ad1 => exact ⟨ad1, rfl⟩
          have hts : crcL n (xs.take (j + 1)) = crcB m xs[j] := by
            rw [List.take_succ_eq_append_getElem hjl, crcL_append, HM.out]; rfl
          have cell1 := HS1.out ad1 rfl j (bv xs[j]) (by simp [bvs, hjl])
          unfold bv at cell1
          have C := crcByte_any m hlt2 xs[j] w
          generalize xs[j] = x at *
          have HC := Lib.hid C
          have HTS := Lib.hid hts
          have r1 : (j : Int) < (xs.length : Int) := by omega
          have r0 : (0 : Int) ≤ (j : Int) := by omega
          clear C hts
          go_wp2_with (go_at_call 115; refine HC.out.mono ?_; rintro e w' ⟨rfl, rfl⟩)
          go_round
          case rel => exact ⟨j + 1, by go_num, by omega, by rw [HTS.out]⟩
          case measure => simp [intOf]; omega
        · obtain rfl : j = xs.length := by omega
          go_wp2
          go_round
          case rel => exact ⟨k + 1, by go_num, by omega, by rw [HT.out, crcL_append, ← HN.out, HM.out, List.take_length]⟩
          case measure => simp [intOf]; omega
    · obtain rfl : k = L.length := by omega
      go_wp2
      go_ret
      refine ⟨?_, rfl⟩
      rw [List.take_length] at HN
      rw [not_u32 hlt, HN.out]
      rfl
end Go.Proofs.Ytdjpeebekpjiiaa.Dk
/- General laws on loads and stores of whole structures, and on rows: of no program. -/
namespace Go.Proofs.Ytdjpeebekpjiiaa
open Go Go.RowKit
set_option linter.unusedVariables false
set_option linter.unusedSimpArgs false
set_option linter.unnecessarySimpa false
theorem wpList_store_whole {P : Program} {ops : Array Oper} {rest : List Oper} {op : Oper} {a : Act} {w : World} {Q : Exit → Act → World → Prop} (hgd : op.guard = none) (ty : TypeId) (x y : Operand) (ho : op.op = .store ty x y)
    (g : Nat) (t : TypeId) (old cells : Array Value) (hx : a.eval x = .pointer (some ⟨g, 0, none⟩)) (hy : a.eval y = .agg cells) (hg : w.heap[g]? = some (.cells old t (0, 0)))
    (hi : (P.info? ty).map (·.size) = some cells.size) (hs : old.size = cells.size) (h1 : cells.all (·.oneCell') = true)
    (h : wpList P ops Q rest (a.put op.dst undef) (w.setRow g cells)) : wpList P ops Q (op :: rest) a w :=
  wpList_plain hgd fun _ hK => by
    unfold Oper.wp execOp
    simp only [ho, hx, hy, Instr.storeAt, Instr.sureAddr, Sem.run_bind, Sem.run_pure, Result.andThen_ok, run_storeVar_row w g t ty old cells hg hi hs h1]
    exact hK _ _ h
theorem cell_of_rowW (w : World) (g j : Nat) (cs : Array Value) (t : TypeId) (fr : Nat × Nat) (hg : w.heap[g]? = some (.cells cs t fr)) : w.cell? ⟨g, j, none⟩ = cs[j]? := by simp [World.cell?, hg]
theorem lt_of_rowW {w : World} {g : Nat} {x : Obj} (h : w.heap[g]? = some x) : g < w.heap.size := (Array.getElem?_eq_some_iff.1 h).1
section
variable {P : Program}
theorem run_loadVar_allW (w : World) (a : Addr) (ty : TypeId) (cs : List Value) (d : TypeDesc) (hc : ∀ j v, cs[j]? = some v → w.cell? (a.add j) = some v)
    (hu : P.underlying ty = some d) (hd : d.isRow = true) (hi : (P.info? ty).map (·.size) = some cs.length) :
    (loadVar ty a).run P w = .ok (.agg cs.toArray) w := by
  have hl : (loadCells a cs.length).run P w = .ok cs.toArray w := run_loadCells_list (P := P) w a cs hc
  cases hq : P.info? ty with
  | none => simp [hq] at hi
  | some i =>
    have hs : i.size = cs.length := by simpa [hq] using hi
    have hagg : (isAgg ty).run P w = .ok true w := by
      unfold isAgg
      rw [Sem.run_bind, run_underlying hu w]
      cases d <;> simp_all
    simp [loadVar, Sem.run_bind, hagg, sizeOf, typeInfo, hq, hs, hl]
theorem wpList_load_allW {ops : Array Oper} {rest : List Oper} {op : Oper} {a : Act} {w : World} {Q : Exit → Act → World → Prop} (hgd : op.guard = none) (ty : TypeId) (x : Operand) (ho : op.op = .load ty x)
    (p : Addr) (hx : a.eval x = .pointer (some p)) (cs : List Value) (d : TypeDesc) (hc : ∀ j v, cs[j]? = some v → w.cell? (p.add j) = some v)
    (hu : P.underlying ty = some d) (hd : d.isRow = true) (hi : (P.info? ty).map (·.size) = some cs.length)
    (h : wpList P ops Q rest (a.put op.dst (.agg cs.toArray)) w) : wpList P ops Q (op :: rest) a w :=
  wpList_plain hgd fun _ hK => by
    unfold Oper.wp execOp
    simp only [ho, hx, Instr.loadAt, Instr.sureAddr, Sem.run_bind, Sem.run_pure, Result.andThen_ok, run_loadVar_allW w p ty cs d hc hu hd hi]
    exact hK _ _ h
theorem alloc_setRowW (w : World) (old cells : Array Value) (t : TypeId) : (w.alloc (.cells old t)).setRow w.heap.size cells = w.alloc (.cells cells t) := by
  unfold World.setRow World.alloc
  congr 1
  apply Array.ext_getElem?
  intro i
  rw [Array.getElem?_modify]
  simp only [Array.getElem?_push]
  by_cases hi : i = w.heap.size
  · subst hi; simp
  · rw [if_neg (fun e => hi e.symm), if_neg hi, if_neg hi]
theorem wpList_store_newW {ops : Array Oper} {rest : List Oper} {op : Oper} {a : Act} {w : World} {Q : Exit → Act → World → Prop} (hgd : op.guard = none) (ty : TypeId) (x y : Operand) (ho : op.op = .store ty x y)
    (t : TypeId) (old cells : Array Value) (hx : a.eval x = .pointer (some ⟨w.heap.size, 0, none⟩)) (hy : a.eval y = .agg cells)
    (hi : (P.info? ty).map (·.size) = some cells.size) (hs : old.size = cells.size) (h1 : cells.all (·.oneCell') = true)
    (h : wpList P ops Q rest (a.put op.dst undef) (w.alloc (.cells cells t))) : wpList P ops Q (op :: rest) a (w.alloc (.cells old t)) :=
  wpList_store_whole hgd ty x y ho w.heap.size t old cells hx hy (heap_alloc_new w _) hi hs h1 (by rw [alloc_setRowW]; exact h)
theorem wpList_runWanted {ops : Array Oper} {rest : List Oper} {op : Oper} {a : Act} {w : World} {Q : Exit → Act → World → Prop} (hw : Region.wanted op (yielded ops a.tmps) = true) (v : Value)
    (hrun : (execOp a.eval op).run P w = .ok (.value v) w) (h : wpList P ops Q rest (a.put op.dst v) w) : wpList P ops Q (op :: rest) a w :=
  wpList_step fun K hK => by
    rw [if_pos hw]
    unfold Oper.wp
    rw [hrun, Oper.upon_value]
    exact hK _ _ h
theorem wpList_loadWanted {ops : Array Oper} {rest : List Oper} {op : Oper} {a : Act} {w : World} {Q : Exit → Act → World → Prop} (hw : Region.wanted op (yielded ops a.tmps) = true) (ty : TypeId) (x : Operand) (ho : op.op = .load ty x)
    (p : Addr) (hx : a.eval x = .pointer (some p)) (cs : List Value) (d : TypeDesc) (hc : ∀ j v, cs[j]? = some v → w.cell? (p.add j) = some v)
    (hu : P.underlying ty = some d) (hd : d.isRow = true) (hi : (P.info? ty).map (·.size) = some cs.length)
    (h : wpList P ops Q rest (a.put op.dst (.agg cs.toArray)) w) : wpList P ops Q (op :: rest) a w :=
  wpList_step fun K hK => by
    rw [if_pos hw]
    unfold Oper.wp execOp
    simp only [ho, hx, Instr.loadAt, Instr.sureAddr, Sem.run_bind, Sem.run_pure, Result.andThen_ok, run_loadVar_allW w p ty cs d hc hu hd hi]
    exact hK _ _ h
theorem results_row_tmp {fn : Func} {p u : Tmp} {ty : TypeId} (h : fn.results = #[.cell p ty, .tmp u]) (tmps : Array Value) (w : World) (g : Nat) (t : TypeId) (cs : List Value) (fr : Nat × Nat) (d : TypeDesc) (v : Value)
    (hv : tmps.getD u undef = v) (hp : tmps.getD p undef = .pointer (some ⟨g, 0, none⟩)) (hg : w.heap[g]? = some (.cells cs.toArray t fr)) (hu : P.underlying ty = some d) (hd : d.isRow = true) (hi : (P.info? ty).map (·.size) = some cs.length) :
    (results fn tmps).run P w = .ok (.tuple #[.agg cs.toArray, v]) w := by
  have hp' : tmps[p]?.getD undef = .pointer (some ⟨g, 0, none⟩) := by simpa using hp
  have hv' : tmps[u]?.getD undef = v := by simpa using hv
  have hl := run_loadVar_mid (P := P) w g 0 ty cs d (fun j u hu => by
    rw [Nat.zero_add, cell_of_rowW w g j _ _ _ hg]
    simpa using hu) hu hd hi
  simp [results, h, hp', hv', asAddr, hl]
end
end Go.Proofs.Ytdjpeebekpjiiaa
/- The quiet walk in a class of worlds, with guarded operations: of no program. -/
namespace Go.Proofs.Ytdjpeebekpjiiaa
open Go Go.RowKit
set_option linter.unusedVariables false
set_option linter.unusedSimpArgs false
section
variable {P : Program} {ops : Array Oper} {C : World → Prop} {Q : Act → Prop}
theorem wpQuiet_runG {o : Oper} {rest : List Oper} {a : Act} {v : Value} (hw : Region.wanted o (yielded ops a.tmps) = true) (hr : ∀ w, C w → (execOp a.eval o).run P w = .ok (.value v) w) (h : wpQuiet P ops C Q rest (a.put o.dst v)) : wpQuiet P ops C Q (o :: rest) a := by
  unfold wpQuiet
  rw [if_pos hw]
  exact ⟨v, fun w hC => by unfold Oper.quietAt; rw [hr w hC]; exact ⟨rfl, rfl⟩, h⟩
theorem wpQuiet_skipG {o : Oper} {rest : List Oper} {a : Act} (hw : (!Region.wanted o (yielded ops a.tmps)) = true) (h : wpQuiet P ops C Q rest (a.put o.dst undef)) : wpQuiet P ops C Q (o :: rest) a := by
  unfold wpQuiet
  rw [if_neg (by intro e; rw [e] at hw; cases hw)]
  exact h
theorem wpQuiet_loadG {o : Oper} {rest : List Oper} {a : Act} (hw : Region.wanted o (yielded ops a.tmps) = true) (ty : TypeId) (x : Operand) (ho : o.op = .load ty x) (p : Addr) (hx : a.eval x = .pointer (some p)) (cs : List Value) (d : TypeDesc)
    (hC : ∀ w, C w → ∀ j v, cs[j]? = some v → w.cell? (p.add j) = some v) (hu : P.underlying ty = some d) (hd : d.isRow = true) (hi : (P.info? ty).map (·.size) = some cs.length) (h : wpQuiet P ops C Q rest (a.put o.dst (.agg cs.toArray))) : wpQuiet P ops C Q (o :: rest) a :=
  wpQuiet_runG hw (fun w hw => by
    unfold execOp
    simp only [ho, hx, Instr.loadAt, Instr.sureAddr, Sem.run_bind, Sem.run_pure, Result.andThen_ok, run_loadVar_allW w p ty cs d (hC w hw) hu hd hi]) h
theorem wpQuiet_callG {o : Oper} {rest : List Oper} {a : Act} {f : FuncId} {fn : Func} {xs : Array Operand} {ats : Array TypeId} (args : Array Value) (v : Value) (hw : Region.wanted o (yielded ops a.tmps) = true)
    (hop : o.op = .call { callee := .value (.func f), args := xs, argTypes := ats }) (hf : P.funcs[f]? = some fn) (hname : (fn.name == "runtime.NumGoroutine") = false) (hb : fn.body.isNone = false) (ha : xs.map a.eval = args)
    (hc : ∀ w, C w → Calls P f args w fun e w' => e = .returned v ∧ C w') (h : wpQuiet P ops C Q rest (a.put o.dst v)) : wpQuiet P ops C Q (o :: rest) a := by
  unfold wpQuiet
  rw [if_pos hw]
  exact ⟨v, fun w hC => by unfold Oper.quietAt; rw [run_call_go hop hf hname hb ha]; exact ⟨rfl, hc w hC⟩, h⟩
end
end Go.Proofs.Ytdjpeebekpjiiaa
