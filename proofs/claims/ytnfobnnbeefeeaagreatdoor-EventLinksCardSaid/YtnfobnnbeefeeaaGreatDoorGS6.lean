/- What the sum laws' walks share: rows that the call owns, sums held against each other. -/
import Derived.Test.YtnfobnnbeefeeaaGreatDoorGS5
import Derived.Test.YtnfobnnbeefeeaaGreatDoorGS1
import Derived.ChangeKeysEq
import Derived.ShutString
import Derived.Test.YtnfobnnbeefeeaaGreatDoorGS4
namespace Go.Proofs.YtnfobnnbeefeeaaGreatDoor.Sm
open Go Go.RowKit
set_option linter.unusedVariables false

theorem own_keep {w w' : World} {base : Nat} {e : TypeId} {size : Nat} {v : Value} {n : Nat} {xs : List Value} (h : w.ownsRow base e size v n xs) (hk : ∀ g, v.ownBlock = some g → w'.heap[g]? = w.heap[g]?) : w'.ownsRow base e size v n xs := by
  refine ⟨h.1, ?_⟩
  rcases h.2 with h2 | ⟨g, cap, cur, e, h1, hh, rest⟩
  · exact Or.inl h2
  · exact Or.inr ⟨g, cap, cur, e, h1, (hk g (by rw [e]; rfl)).trans hh, rest⟩
theorem own_sl {w : World} {base : Nat} {e : TypeId} {size : Nat} {v : Value} {n : Nat} {xs : List Value} (h : w.ownsRow base e size v n xs) : ∃ ao c, v = .slice ao n c := by
  rcases h.2 with ⟨rfl, rfl⟩ | ⟨g, cap, cur, rfl, _⟩
  · exact ⟨_, _, rfl⟩
  · exact ⟨_, _, rfl⟩
theorem Bs.ofOwn {w : World} {base : Nat} {v : Value} {xs : List UInt8} (h : w.ownsRow base 5 1 v xs.length (bvs xs)) : Bs w v xs := by
  have hc := fun g hg => World.ownsRow.cells h (g := g) hg
  rcases h.2 with ⟨rfl, hn⟩ | ⟨g, cap, cur, rfl, hb, hg, hnc, hcm, hcs, ht⟩
  · exact ⟨Option.none, 0, by rw [hn], by omega, fun _ => hn, by intro a e; cases e⟩
  · refine ⟨_, cap, rfl, hnc, (by intro e; cases e), fun a ha j u hu => ?_⟩
    cases ha
    exact hc g rfl j u hu
/-- A source for an append. -/
theorem Bs.app {w : World} {ao : Option Addr} {n c : Nat} {xs : List UInt8} (h : Bs w (.slice ao n c) xs) : Go.Src Tryz.prog 1 36 (.slice ao n c) n (bvs xs) w ∧ xs.length = n := by
  obtain ⟨ao', c', hv, hc, hno, hs⟩ := h
  obtain ⟨rfl, rfl, rfl⟩ : ao = ao' ∧ n = xs.length ∧ c = c' := by simpa using hv
  exact ⟨Src.any w (e' := 5) Tryz.underlying36 ao _ c (bvs xs) (by rw [bvs_length, Nat.mul_one]) hno hs (bvs_one xs), rfl⟩
theorem part_byte (l : List UInt8) (i : Nat) (h : i < l.length) (w : World) : (part 5 (bvs l).toArray (i * 1)).run Tryz.prog w = .ok (.int .u8 ((l.getD i 0).toNat : Int)) w := by
  obtain ⟨i0, hi0, hz0, hz1, hz2⟩ := info_parts Tryz.info5
  have hh := bvs_lit l i h
  have hs : i < (bvs l).toArray.size := by simpa [bvs] using h
  rw [Array.getElem?_eq_getElem hs] at hh
  have hv := Option.some.inj hh
  simp only [List.getElem_toArray] at hv
  have hsz : (sizeOf 5).run Tryz.prog w = .ok 1 w := by simp [sizeOf, typeInfo, hi0, hz1]
  have hl : i < (bvs l).length := by simpa using hs
  simp [part, go_sem, hi0, hz1, hl, hv, sizeOf, typeInfo]
theorem eq_bytes (l m : List UInt8) (d : Nat) : ∀ (is : List Nat) (w : World), (∀ i ∈ is, i < l.length ∧ i < m.length) →
    (Op.eqItems (d + 1) 5 1 (bvs l).toArray (bvs m).toArray is).run Tryz.prog w = .ok (is.all fun i => l.getD i 0 == m.getD i 0) w
  | [], w, _ => by simp [Op.eqItems]
  | i :: is, w, h => by
    have hi := h i (by simp)
    have ih := eq_bytes l m d is w (fun j hj => h j (by simp [hj]))
    have hu : Tryz.prog.underlying 5 = some (.int .u8) := Tryz.underlying5
    have he : ∀ a b : UInt8, (Op.equalIn (d + 1) 5 (.int .u8 (a.toNat : Int)) (.int .u8 (b.toNat : Int))).run Tryz.prog w = .ok (a == b) w := by
      intro a b
      have : (((a.toNat : Nat) : Int) == ((b.toNat : Nat) : Int)) = (a == b) := by
        rw [Bool.eq_iff_iff, beq_iff_eq, beq_iff_eq, Int.ofNat_inj, UInt8.toNat_inj]
      simp [Op.equalIn, run_underlying hu, this]
    simp only [Op.eqItems, Sem.run_bind, part_byte l i hi.1, part_byte m i hi.2, Result.andThen_ok, he]
    by_cases hb : (l.getD i 0 == m.getD i 0) = true
    · simp only [hb, Bool.not_true, Bool.false_eq_true, if_false, ih, List.all_cons, Bool.true_and]
    · simp only [Bool.not_eq_true] at hb
      simp only [hb, Bool.not_false, if_true, Sem.run_pure, List.all_cons, Bool.false_and]
set_option maxRecDepth 100000 in
theorem equal_sum (l m : List UInt8) (hl : l.length = 32) (hm : m.length = 32) (w : World) : (Op.equal 23 (.agg (bvs l).toArray) (.agg (bvs m).toArray)).run Tryz.prog w = .ok (decide (l = m)) w := by
  obtain ⟨i0, hi0, hz0, hz1, hz2⟩ := info_parts Tryz.info5
  have hc : Tryz.prog.cellsOf 5 = 1 := by kernel_rfl
  have h := run_equalIn_array (P := Tryz.prog) w 9999 (t := 23) (bvs l).toArray (bvs m).toArray (show Tryz.prog.underlying 23 = some (.array 32 5) by kernel_rfl) hi0
  have hd : Op.maxDepth = 9999 + 1 := rfl
  unfold Op.equal
  rw [hd, h, hc, eq_bytes l m 9998 _ w (fun i hi => by have := List.mem_range.1 hi; omega)]
  congr 1
  rw [Bool.eq_iff_iff]
  simp only [List.all_eq_true, List.mem_range, beq_iff_eq, decide_eq_true_eq]
  constructor
  · intro hh
    apply List.ext_getElem (by omega)
    intro i h1 h2
    have := hh i (by omega)
    simpa [List.getD, h1, h2] using this
  · rintro rfl i _; rfl
theorem neq_sum (l m : List UInt8) (hl : l.length = 32) (hm : m.length = 32) (w : World) : (binOp .neq 23 (.agg (bvs l).toArray) (.agg (bvs m).toArray)).run Tryz.prog w = .ok (.bool (!decide (l = m))) w := by
  simp [binOp, equal_sum l m hl hm]
theorem eql_sum (l m : List UInt8) (hl : l.length = 32) (hm : m.length = 32) (w : World) : (binOp .eql 23 (.agg (bvs l).toArray) (.agg (bvs m).toArray)).run Tryz.prog w = .ok (.bool (decide (l = m))) w := by
  simp [binOp, equal_sum l m hl hm]
end Go.Proofs.YtnfobnnbeefeeaaGreatDoor.Sm
/- A slice of bytes made a string. -/
namespace Go.Proofs.YtnfobnnbeefeeaaGreatDoor.Sm
open Go Go.RowKit
set_option linter.unusedVariables false

def str (ys : List UInt8) : ByteArray := ⟨ys.toArray⟩
theorem str_size (ys : List UInt8) : (str ys).size = ys.length := by simp [str, ByteArray.size]
theorem str_list (ys : List UInt8) : (str ys).data.toList = ys := by simp [str]
theorem str_of_nums (ys : List UInt8) : strOfNums (ys.map fun b => (b.toNat : Int)) = str ys := by
  simp [strOfNums, str, Function.comp_def]
theorem run_convert_sl {w : World} {ao : Option Addr} {n c : Nat} {ys : List UInt8} (hn : ys.length = n) (hno : ao = Option.none → ys = []) (hs : ∀ a, ao = some a → ∀ j u, (bvs ys)[j]? = some u → w.cell? (a.add j) = some u) :
    (convert 36 9 (.slice ao n c)).run Tryz.prog w = .ok (.string (str ys)) w := by
  cases ao with
  | none =>
    obtain rfl := hno rfl
    subst hn
    exact run_convert_bytes_nil w 36 5 Tryz.underlying36 Tryz.underlying5 _ _ 9 Tryz.underlying9
  | some a =>
    have hl : (loadCells a n).run Tryz.prog w = .ok ((ys.map fun b => (b.toNat : Int)).map (Value.int .u8)).toArray w := by
      have := run_loadCells_list (P := Tryz.prog) w a (bvs ys) (hs a rfl)
      rw [bvs_length, hn] at this
      rw [this]
      simp [bvs, bv, Function.comp_def]
    rw [run_convert_bytes_string w 36 9 5 _ n c Tryz.underlying36 Tryz.underlying5 Tryz.underlying9, run_bytesToString w _ n c _ hl, foldl_push_bytes, ← str_of_nums]
    simp [strOfNums, ByteArray.empty, ByteArray.emptyWithCapacity]
    rfl
theorem Bs.str {w : World} {ao : Option Addr} {n c : Nat} {xs : List UInt8} (h : Bs w (.slice ao n c) xs) : (convert 36 9 (.slice ao n c)).run Tryz.prog w = .ok (.string (str xs)) w := by
  obtain ⟨ao', c', hv, hc, hno, hs⟩ := h
  obtain ⟨rfl, rfl, rfl⟩ : ao = ao' ∧ n = xs.length ∧ c = c' := by simpa using hv
  exact run_convert_sl rfl (fun e => List.eq_nil_of_length_eq_zero (hno e)) hs
theorem Bs.len {w : World} {ao : Option Addr} {n c : Nat} {xs : List UInt8} (h : Bs w (.slice ao n c) xs) : n = xs.length := by
  obtain ⟨ao', c', hv, _⟩ := h
  simp at hv
  exact hv.2.1
end Go.Proofs.YtnfobnnbeefeeaaGreatDoor.Sm
/- The reference's right, less and list. -/
namespace Go.Proofs.YtnfobnnbeefeeaaGreatDoor.Sm
open Go Go.RowKit
set_option linter.unusedVariables false

theorem rotr_zero {x : Nat} : rotr 0 x = x := by simp [rotr, Nat.mod_one]
theorem rotr_succ {k x : Nat} (hk : k < 32) : rotr (k + 1) x = rotr k x / 2 + rotr k x % 2 * 2147483648 := by
  unfold rotr
  obtain ⟨P, hP⟩ : ∃ P, P = 2 ^ k := ⟨_, rfl⟩
  obtain ⟨R, hR⟩ : ∃ R, R = 2 ^ (31 - k) := ⟨_, rfl⟩
  have hPR : P * R = 2147483648 := by rw [hP, hR, ← Nat.pow_add, show k + (31 - k) = 31 by omega]
  have h1 : 2 ^ (32 - k) = 2 * R := by rw [hR, show 32 - k = (31 - k) + 1 by omega, Nat.pow_succ, Nat.mul_comm]
  have h2 : 2 ^ (32 - (k + 1)) = R := by rw [hR, show 32 - (k + 1) = 31 - k by omega]
  have h3 : 2 ^ (k + 1) = P * 2 := by rw [Nat.pow_succ, hP]
  rw [h1, h2, h3, ← hP, Nat.mod_mul, ← Nat.div_div_eq_div_mul]
  generalize x / P = a
  generalize x % P = b
  have e1 : b * (2 * R) + a = 2 * (b * R) + a := by rw [← Nat.mul_assoc, Nat.mul_comm b 2, Nat.mul_assoc]
  rw [e1, Nat.add_mul, Nat.mul_right_comm, hPR]
  generalize b * R = z
  omega
def RrRel (x n : Nat) (v u : Value) : Prop := ∃ k : Nat, u = .int .i64 (k : Int) ∧ k ≤ n ∧ v = .int .u32 ((rotr k x : Nat) : Int)
set_option maxHeartbeats 1000000 in
theorem right_any (x n : Nat) (hx : x < 4294967296) (hn : n ≤ 32) (w : World) : Calls Tryz.prog 58 #[.int .u32 (x : Int), .int .i64 (n : Int)] w fun e w' => e = .returned (.int .u32 ((rotr n x : Nat) : Int)) ∧ w = w' := by
  have hnI : (n : Int) ≤ 32 := by omega
  go_enter Tryz.func58, Tryz.ntmps58
  go_wp2
  go_loop [0, 5] (fun v u => RrRel x n v u) (fun _ u => n - (intOf u).toNat)
  case atStart => exact ⟨0, rfl, Nat.zero_le _, by rw [rotr_zero]⟩
  case round =>
    obtain ⟨k, rfl, hk, rfl⟩ := hrel
    by_cases hkn : k < n
    · have hlt := rotr_lt (k := k) (by omega) hx
      have hs := rotr_succ (k := k) (x := x) (by omega)
      obtain ⟨y, hy⟩ : ∃ y, y = rotr k x := ⟨_, rfl⟩
      rw [← hy] at hlt hs ⊢
      have HS := Lib.hid hs
      have hyI : (y : Int) < 4294967296 := by omega
      have hkI : (k : Int) < (n : Int) := by omega
      clear hs hy
      go_wp2
      go_round
      case rel => exact ⟨k + 1, by go_num, by omega, by rw [HS.out]; exact congrArg _ (by simp; try omega)⟩
      case measure => simp [intOf]; omega
    · obtain rfl : k = n := by omega
      go_wp2
      go_ret
      exact ⟨rfl, rfl⟩
def RlRel (x n : Nat) (v u : Value) : Prop := ∃ k : Nat, u = .int .i64 (k : Int) ∧ k ≤ n ∧ v = .int .u32 ((x / 2 ^ k : Nat) : Int)
set_option maxHeartbeats 1000000 in
theorem less_any (x n : Nat) (hx : x < 4294967296) (hn : n ≤ 32) (w : World) : Calls Tryz.prog 59 #[.int .u32 (x : Int), .int .i64 (n : Int)] w fun e w' => e = .returned (.int .u32 ((x / 2 ^ n : Nat) : Int)) ∧ w = w' := by
  have hnI : (n : Int) ≤ 32 := by omega
  go_enter Tryz.func59, Tryz.ntmps59
  go_wp2
  go_loop [0, 5] (fun v u => RlRel x n v u) (fun _ u => n - (intOf u).toNat)
  case atStart => exact ⟨0, rfl, Nat.zero_le _, by simp⟩
  case round =>
    obtain ⟨k, rfl, hk, rfl⟩ := hrel
    by_cases hkn : k < n
    · have hs : x / 2 ^ (k + 1) = x / 2 ^ k / 2 := by rw [Nat.pow_succ, Nat.div_div_eq_div_mul]
      have hlt : x / 2 ^ k < 4294967296 := Nat.lt_of_le_of_lt (Nat.div_le_self _ _) hx
      obtain ⟨y, hy⟩ : ∃ y, y = x / 2 ^ k := ⟨_, rfl⟩
      rw [← hy] at hlt hs ⊢
      have HS := Lib.hid hs
      have hyI : (y : Int) < 4294967296 := by omega
      have hkI : (k : Int) < (n : Int) := by omega
      clear hs hy
      go_wp2
      go_round
      case rel => exact ⟨k + 1, by go_num, by omega, by rw [HS.out]; simp⟩
      case measure => simp [intOf]; omega
    · obtain rfl : k = n := by omega
      go_wp2
      go_ret
      exact ⟨rfl, rfl⟩
set_option maxRecDepth 100000 in
set_option maxHeartbeats 1000000 in
theorem list_any (w : World) : Calls Tryz.prog 57 #[] w fun e w' => e = .returned (.slice (some ⟨w.heap.size, 0, none⟩) 64 64) ∧ w' = w.alloc (.cells (u32s K0).toArray 81) := by
  go_enter Tryz.func57, Tryz.ntmps57
  go_wp2
  go_ret
  exact ⟨rfl, rfl⟩
end Go.Proofs.YtnfobnnbeefeeaaGreatDoor.Sm
/- CRC-32 as the rest of a division of polynomials: plain mathematics. -/
namespace Go.Proofs.YtnfobnnbeefeeaaGreatDoor.Sm
set_option linter.unusedVariables false

def powers : List Nat := [26, 23, 22, 16, 12, 11, 10, 8, 7, 5, 4, 2, 1, 0]
def flipAt (L : List Bool) (i : Nat) : List Bool := L.set i (!L.getD i false)
/-- The first j powers' bits are turned. -/
def flips (L : List Bool) (k : Nat) : Nat → List Bool
  | 0 => L
  | j + 1 => flipAt (flips L k j) (k + 32 - powers.getD j 0)
def divStep (L : List Bool) (k : Nat) : List Bool := if L.getD k false = true then flips (L.set k false) k 14 else L
def divs (L : List Bool) : Nat → List Bool
  | 0 => L
  | k + 1 => divStep (divs L k) k
/-- The first j are turned about. -/
def nots (L : List Bool) : Nat → List Bool
  | 0 => L
  | j + 1 => flipAt (nots L j) j
/-- The number of the last j bits: the last one the highest. -/
def tailNum (L : List Bool) : Nat → Nat
  | 0 => 0
  | j + 1 => tailNum L j * 2 + (if L.getD (L.length - 1 - j) false then 0 else 1)
def crcRef (xs : List UInt8) : Nat := tailNum (divs (nots (bitsL xs ++ List.replicate 32 false) 32) (8 * xs.length)) 32

theorem flipAt_length (L : List Bool) (i : Nat) : (flipAt L i).length = L.length := by simp [flipAt]
theorem flips_length (L : List Bool) (k : Nat) : ∀ j, (flips L k j).length = L.length
  | 0 => rfl
  | j + 1 => by rw [flips, flipAt_length, flips_length L k j]
theorem divStep_length (L : List Bool) (k : Nat) : (divStep L k).length = L.length := by
  unfold divStep; split
  · rw [flips_length]; simp
  · rfl
theorem divs_length (L : List Bool) : ∀ k, (divs L k).length = L.length
  | 0 => rfl
  | k + 1 => by rw [divs, divStep_length, divs_length L k]
theorem nots_length (L : List Bool) : ∀ j, (nots L j).length = L.length
  | 0 => rfl
  | j + 1 => by rw [nots, flipAt_length, nots_length L j]
theorem flipAt_get (L : List Bool) (i m : Nat) (hi : i < L.length) : (flipAt L i).getD m false = (L.getD m false ^^ decide (m = i)) := by
  unfold flipAt
  simp only [List.getD, List.getElem?_set]
  by_cases h : i = m
  · subst h; simp [hi]
  · rw [if_neg h]; simp [Ne.symm h]
theorem nots_get (L : List Bool) (m : Nat) : ∀ j, j ≤ L.length → (nots L j).getD m false = (L.getD m false ^^ decide (m < j))
  | 0, _ => by simp [nots]
  | j + 1, hj => by
    rw [nots, flipAt_get _ _ _ (by rw [nots_length]; omega), nots_get L m j (by omega)]
    by_cases h1 : m < j
    · simp [h1, show m < j + 1 by omega, show ¬ m = j by omega]
    · by_cases h2 : m = j
      · simp [h2]
      · simp [h1, h2, show ¬ m < j + 1 by omega]
/-- Bit 31 - p of the number stands for power p. -/
theorem flips_get (L : List Bool) (k m : Nat) (hk : k + 32 < L.length) : ∀ j, j ≤ 14 → (flips L k j).getD m false = (L.getD m false ^^ ((powers.take j).any fun p => decide (m = k + 32 - p)))
  | 0, _ => by simp [flips]
  | j + 1, hj => by
    rw [flips, flipAt_get _ _ _ (by rw [flips_length]; omega), flips_get L k m hk j (by omega)]
    have hp : j < powers.length := by simp [powers]; omega
    rw [List.take_succ_eq_append_getElem hp, List.any_append]
    have hg : powers.getD j 0 = powers[j] := by simp [List.getD, hp]
    rw [hg]
    simp only [List.any_cons, List.any_nil, Bool.or_false]
    by_cases h2 : m = k + 32 - powers[j]
    · have h1 : ((powers.take j).any fun p => decide (m = k + 32 - p)) = false := by
        rw [List.any_eq_false]
        intro p hp'
        obtain ⟨i, hi, rfl⟩ := List.mem_iff_getElem.1 hp'
        rw [List.length_take] at hi
        rw [List.getElem_take]
        have hd : ∀ a b : Fin 14, a < b → powers.getD a 0 ≠ powers.getD b 0 ∧ powers.getD a 0 ≤ 26 ∧ powers.getD b 0 ≤ 26 := by decide
        have := hd ⟨i, by omega⟩ ⟨j, by omega⟩ (by show i < j; omega)
        simp only [List.getD, hp, List.getElem?_eq_getElem, Option.getD_some, show i < powers.length by omega] at this
        simp only [decide_eq_true_eq]
        omega
      rw [h1]; simp [h2]
    · simp [h2]
theorem rev_bits : ∀ j : Fin 32, Nat.testBit 3988292384 j = powers.any fun p => decide ((j : Nat) = 31 - p) := by decide
/-- The register behind k bits. -/
def regK (xs : List UInt8) (k : Nat) : Nat := run 4294967295 ((bitsL xs).take k)
theorem regK_lt (xs : List UInt8) (k : Nat) : regK xs k < 4294967296 := run_lt _ (by decide)
theorem regK_succ (xs : List UInt8) (k : Nat) (h : k < (bitsL xs).length) : regK xs (k + 1) = stepBit (regK xs k) ((bitsL xs).getD k false) := by
  unfold regK
  rw [List.take_succ_eq_append_getElem h, run_append]
  simp [run, List.getD, h]
theorem step_bit (c : Nat) (b : Bool) (hc : c < 4294967296) (j : Nat) (hj : j < 32) : (stepBit c b).testBit j = (c.testBit (j + 1) ^^ ((c.testBit 0 ^^ b) && Nat.testBit 3988292384 j)) := by
  unfold stepBit crc1
  rw [Nat.testBit_xor]
  have h1 : ((c ^^^ b.toNat) / 2).testBit j = c.testBit (j + 1) := by
    rw [← Nat.testBit_succ, Nat.testBit_xor]
    have : b.toNat.testBit (j + 1) = false := by cases b <;> simp [Nat.testBit_succ]
    rw [this, Bool.xor_false]
  have h2 : (c ^^^ b.toNat) % 2 = (c.testBit 0 ^^ b).toNat := by
    rw [xor_par, Nat.testBit_zero]
    rcases Nat.mod_two_eq_zero_or_one c with h | h <;> cases b <;> simp [h]
  rw [h1, h2]
  cases (c.testBit 0 ^^ b) <;> simp
theorem divs_get (xs : List UInt8) : ∀ k, k ≤ 8 * xs.length → ∀ m, k ≤ m → m < 8 * xs.length + 32 →
    (divs (nots (bitsL xs ++ List.replicate 32 false) 32) k).getD m false = ((bitsL xs).getD m false ^^ (decide (m < k + 32) && (regK xs k).testBit (m - k)))
  | 0, _, m, _, hm => by
    rw [divs, nots_get _ _ _ (by simp)]
    have e : (bitsL xs ++ List.replicate 32 false).getD m false = (bitsL xs).getD m false := by
      simp only [List.getD, List.getElem?_append]
      split
      · rfl
      · rename_i h
        rw [List.getElem?_replicate, List.getElem?_eq_none (by omega)]
        split <;> rfl
    rw [e, Nat.sub_zero, Nat.zero_add]
    have : regK xs 0 = 4294967295 := by simp [regK, run]
    rw [this]
    by_cases h : m < 32
    · have hb : ∀ j : Fin 32, Nat.testBit 4294967295 j = true := by decide
      rw [hb ⟨m, h⟩]; simp [h]
    · simp [h]
  | k + 1, hk, m, hm, hml => by
    have hbl := bitsL_length xs
    have hL : (divs (nots (bitsL xs ++ List.replicate 32 false) 32) k).length = 8 * xs.length + 32 := by rw [divs_length, nots_length]; simp [hbl]
    have ih := divs_get xs k (by omega)
    have ihk := ih k (by omega) (by omega)
    have ihm := ih m (by omega) hml
    rw [Nat.sub_self, decide_eq_true (show k < k + 32 by omega), Bool.true_and] at ihk
    rw [regK_succ xs k (by omega)]
    rw [divs]
    unfold divStep
    generalize divs (nots (bitsL xs ++ List.replicate 32 false) 32) k = L at *
    have hc := regK_lt xs k
    generalize regK xs k = c at *
    generalize hb0 : (bitsL xs).getD k false = b at *
    by_cases ht : L.getD k false = true
    · rw [if_pos ht, flips_get _ _ _ (by rw [List.length_set]; omega) 14 (by decide)]
      have e1 : (L.set k false).getD m false = L.getD m false := by
        simp only [List.getD, List.getElem?_set]
        rw [if_neg (by omega)]
      rw [e1, ihm]
      have e2 : (c.testBit 0 ^^ b) = true := by rw [← ht, ihk, Bool.xor_comm]
      by_cases hw : m < k + 1 + 32
      · rw [decide_eq_true hw, Bool.true_and, step_bit c b hc _ (by omega), e2, Bool.true_and]
        have hr := rev_bits ⟨m - (k + 1), by omega⟩
        have e3 : (powers.take 14).any (fun p => decide (m = k + 32 - p)) = Nat.testBit 3988292384 (m - (k + 1)) := by
          rw [hr]
          show powers.any _ = powers.any _
          apply Bool.eq_iff_iff.2
          simp only [List.any_eq_true, decide_eq_true_eq]
          have hp : ∀ p ∈ powers, p ≤ 26 := by decide
          constructor
          · rintro ⟨p, h1, h2⟩; exact ⟨p, h1, by have := hp p h1; omega⟩
          · rintro ⟨p, h1, h2⟩; exact ⟨p, h1, by have := hp p h1; omega⟩
        rw [e3]
        by_cases h3 : m < k + 32
        · rw [decide_eq_true h3, Bool.true_and, show m - (k + 1) + 1 = m - k by omega, Bool.xor_assoc]
        · have : m - (k + 1) + 1 = 32 := by omega
          rw [decide_eq_false h3, this, Nat.testBit_lt_two_pow (i := 32) (by exact hc)]
          simp
      · rw [decide_eq_false hw, decide_eq_false (show ¬ m < k + 32 by omega)]
        have e3 : (powers.take 14).any (fun p => decide (m = k + 32 - p)) = false := by
          rw [List.any_eq_false]
          intro p _
          simp only [decide_eq_true_eq]
          omega
        rw [e3]; simp
    · rw [if_neg ht, ihm]
      have e2 : (c.testBit 0 ^^ b) = false := by rw [Bool.xor_comm, ← ihk]; simpa using ht
      by_cases hw : m < k + 1 + 32
      · rw [decide_eq_true hw, Bool.true_and, step_bit c b hc _ (by omega), e2, Bool.false_and, Bool.xor_false]
        by_cases h3 : m < k + 32
        · rw [decide_eq_true h3, Bool.true_and, show m - (k + 1) + 1 = m - k by omega]
        · have : m - (k + 1) + 1 = 32 := by omega
          rw [decide_eq_false h3, this, Nat.testBit_lt_two_pow (i := 32) (by exact hc)]
          simp
      · rw [decide_eq_false hw, decide_eq_false (show ¬ m < k + 32 by omega)]
        rfl
theorem tailNum_of (c : Nat) (L : List Bool) (n : Nat) (hL : L.length = n + 32) (h : ∀ j, j < 32 → L.getD (n + j) false = c.testBit j) : ∀ j, j ≤ 32 → tailNum L j + c / 2 ^ (32 - j) % 2 ^ j = 2 ^ j - 1
  | 0, _ => by simp [tailNum, Nat.mod_one]
  | j + 1, hj => by
    have ih := tailNum_of c L n hL h j (by omega)
    have hb := h (31 - j) (by omega)
    rw [tailNum, show L.length - 1 - j = n + (31 - j) by omega, hb]
    have hd : c / 2 ^ (32 - j) = c / 2 ^ (32 - (j + 1)) / 2 := by rw [Nat.div_div_eq_div_mul, ← Nat.pow_succ, show (32 - (j + 1)).succ = 32 - j by omega]
    rw [hd] at ih
    have ht : c.testBit (31 - j) = decide (c / 2 ^ (32 - (j + 1)) % 2 = 1) := by rw [Nat.testBit_eq_decide_div_mod_eq, show 32 - (j + 1) = 31 - j by omega]
    rw [ht]
    generalize c / 2 ^ (32 - (j + 1)) = y at *
    have hm : y % 2 ^ (j + 1) = y % 2 + 2 * (y / 2 % 2 ^ j) := by rw [Nat.pow_succ, Nat.mul_comm (2 ^ j) 2, Nat.mod_mul]
    have hp : 0 < 2 ^ j := Nat.two_pow_pos j
    rw [hm, Nat.pow_succ]
    generalize y / 2 % 2 ^ j = u at *
    rcases Nat.mod_two_eq_zero_or_one y with h2 | h2 <;> rw [h2] <;> simp <;> omega
theorem crcRef_eq (xs : List UInt8) : crcRef xs = crcOf xs := by
  have hbl := bitsL_length xs
  have h := tailNum_of (regK xs (8 * xs.length)) (divs (nots (bitsL xs ++ List.replicate 32 false) 32) (8 * xs.length)) (8 * xs.length) (by rw [divs_length, nots_length]; simp [hbl]) (fun j hj => by
    rw [divs_get xs _ (Nat.le_refl _) _ (by omega) (by omega), decide_eq_true (show 8 * xs.length + j < 8 * xs.length + 32 by omega), Bool.true_and, show 8 * xs.length + j - 8 * xs.length = j by omega]
    simp only [List.getD]
    rw [List.getElem?_eq_none (by omega)]
    simp) 32 (by decide)
  have hr : regK xs (8 * xs.length) = crcL 4294967295 xs := by unfold regK; rw [List.take_of_length_le (by omega), ← crcL_run]
  rw [hr] at h
  have := crcL_lt xs (c := 4294967295) (by decide)
  unfold crcRef crcOf
  rw [Nat.sub_self, Nat.pow_zero, Nat.div_one, Nat.mod_eq_of_lt (by exact this)] at h
  omega
end Go.Proofs.YtnfobnnbeefeeaaGreatDoor.Sm
/- The reference's CRC: a division of polynomials: its walk. -/
namespace Go.Proofs.YtnfobnnbeefeeaaGreatDoor.Sm
open Go Go.RowKit
set_option linter.unusedVariables false

def bls (L : List Bool) : List Value := L.map Value.bool
theorem bls_length (L : List Bool) : (bls L).length = L.length := by simp [bls]
theorem bls_one (L : List Bool) : ∀ v ∈ bls L, v.oneCell' = true := by
  intro v hv
  obtain ⟨_, _, rfl⟩ := List.mem_map.1 hv
  rfl
theorem Tryz.infoBool : (Tryz.prog.info? 4).map (fun i => (i.zero, i.size, i.bytes)) = some (some (.bool false), 1, 1) := by kernel_rfl
/-- One new cell as a source for an append. -/
theorem src_one {tx e : TypeId} (hk : Tryz.prog.underlying tx = some (.slice e)) (w : World) (v : Value) (h1 : v.oneCell' = true) : Go.Src Tryz.prog 1 tx (.slice (some ⟨w.heap.size, 0, none⟩) 1 1) 1 [v] (w.alloc (.cells #[v] e)) :=
  Src.any _ (e' := e) hk _ 1 1 [v] rfl (fun h => by cases h) (fun a ha j u hu => by
    cases ha
    match j, hu with
    | 0, hu =>
      obtain rfl : v = u := by simpa using hu
      rw [Addr.add_mid, Nat.zero_add, cell_of_row _ _ 0 _ _ _ (heap_alloc_new w _)]; rfl
    | j + 1, hu => simp at hu) (fun u hu => by
    obtain rfl : u = v := by simpa using hu
    exact h1)
theorem bitsL_take (l : List UInt8) (k : Nat) (h : k < l.length) : bitsL (l.take (k + 1)) = bitsL (l.take k) ++ byteBits l[k] := by
  rw [List.take_succ_eq_append_getElem h]
  unfold bitsL
  rw [List.flatMap_append]
  simp
theorem byteBits_take (x : UInt8) (j : Nat) (h : j < 8) : (byteBits x).take (j + 1) = (byteBits x).take j ++ [x.toNat.testBit j] := by
  have hl : (byteBits x).length = 8 := by simp [byteBits]
  rw [List.take_succ_eq_append_getElem (by omega)]
  simp [byteBits]
theorem size_list (s : ByteArray) : s.data.toList.length = s.size := rfl
/-- The bits so far are the call's own. -/
def BO (wr : World) (B : Nat) (v : Value) (L : List Bool) : Prop := wr.ownsRow B 4 1 v L.length (bls L)
theorem BO_at {wr : World} {B : Nat} {ao : Option Addr} {n c : Nat} {L : List Bool} (h : BO wr B (.slice ao n c) L) {k : Nat} (hk : k < L.length) :
    ∃ g, ao = some ⟨g, 0, none⟩ ∧ n = L.length ∧ B ≤ g ∧ wr.cell? ⟨g, k, none⟩ = some (.bool (L.getD k false)) ∧ wr.frozen? ⟨g, k, none⟩ = false ∧ ∀ b, BO (wr.setCell ⟨g, k, none⟩ (.bool b)) B (.slice ao n c) (L.set k b) := by
  unfold BO at h
  have h' := h
  rcases h.2 with ⟨e, e0⟩ | ⟨g, cap, cur, e, hb, _⟩
  · omega
  · injection e with e1 e2 e3
    subst e1 e2 e3
    refine ⟨g, rfl, rfl, hb, ?_, h'.frozenAt k, fun b => ?_⟩
    · rw [h'.cellAt k (by omega)]
      simp [bls, List.getD, hk]
    · have := (h'.stored k (.bool b)).1
      unfold BO
      rw [List.length_set]
      simpa [bls, List.map_set] using this
theorem BO_own {wr wr' : World} {B : Nat} {v : Value} {L : List Bool} (h : BO wr B v L) (hk : ∀ g, v.ownBlock = some g → wr'.heap[g]? = wr.heap[g]?) : BO wr' B v L := own_keep h hk
/-- The 14 powers lie in a block of their own. -/
def pwc : List Value := powers.map fun (p : Nat) => Value.int .i64 (p : Int)
theorem pw_get (j : Nat) (h : j < 14) : pwc[j]? = some (.int .i64 ((powers.getD j 0 : Nat) : Int)) ∧ powers.getD j 0 ≤ 26 := by
  have hd : ∀ a : Fin 14, powers.getD a 0 ≤ 26 := by decide
  have hl : j < powers.length := h
  exact ⟨by simp [pwc, List.getD, hl], hd ⟨j, h⟩⟩
theorem tailNum_lt (L : List Bool) : ∀ j, tailNum L j < 2 ^ j
  | 0 => by simp [tailNum]
  | j + 1 => by
    have := tailNum_lt L j
    rw [tailNum, Nat.pow_succ]
    split <;> omega
theorem val_i64 {a b : Int} (h : a = b) : Value.int .i64 a = Value.int .i64 b := by rw [h]
theorem val_u32n {a : Int} {b : Nat} (h : a = (b : Int)) : Value.int .u32 a = Value.int .u32 (b : Int) := by rw [h]
def RpRel (w : World) (L : List Bool) (v u : Value) (wr : World) : Prop :=
  ∃ j : Nat, u = .int .i64 (j : Int) ∧ j ≤ 32 ∧ BO wr w.heap.size v (L ++ List.replicate j false) ∧ Below w.heap.size w wr
def RnRel (w : World) (v : Value) (L : List Bool) (u : Value) (wr : World) : Prop :=
  ∃ j : Nat, u = .int .i64 (j : Int) ∧ j ≤ 32 ∧ BO wr w.heap.size v (nots L j) ∧ Below w.heap.size w wr
def RdRel (w : World) (v : Value) (gp : Nat) (L : List Bool) (n : Nat) (u : Value) (wr : World) : Prop :=
  ∃ k : Nat, u = .int .i64 (k : Int) ∧ k ≤ n ∧ BO wr w.heap.size v (divs L k) ∧ wr.heap[gp]? = some (.cells pwc.toArray 3 (0, 0)) ∧ Below w.heap.size w wr
def RfRel (w : World) (v : Value) (gp : Nat) (L : List Bool) (k : Nat) (u : Value) (wr : World) : Prop :=
  ∃ j : Nat, u = .int .i64 (j : Int) ∧ j ≤ 14 ∧ BO wr w.heap.size v (flips L k j) ∧ wr.heap[gp]? = some (.cells pwc.toArray 3 (0, 0)) ∧ Below w.heap.size w wr
def RtRel (w : World) (L : List Bool) (wr0 : World) (c u : Value) (wr : World) : Prop :=
  ∃ j : Nat, u = .int .i64 ((L.length : Int) - 1 - (j : Int)) ∧ j ≤ 32 ∧ c = .int .u32 ((tailNum L j : Nat) : Int) ∧ wr = wr0
def RoRel (w : World) (s : ByteArray) (v u : Value) (wr : World) : Prop :=
  ∃ k : Nat, u = .int .i64 (k : Int) ∧ k ≤ s.size ∧ BO wr w.heap.size v (bitsL (s.data.toList.take k)) ∧ Below w.heap.size w wr
def RiRel (w : World) (L : List Bool) (x : UInt8) (v vx u : Value) (wr : World) : Prop :=
  ∃ j : Nat, u = .int .i64 (j : Int) ∧ j ≤ 8 ∧ vx = .int .u8 ((x.toNat / 2 ^ j : Nat) : Int) ∧ BO wr w.heap.size v (L ++ (byteBits x).take j) ∧ Below w.heap.size w wr
end Go.Proofs.YtnfobnnbeefeeaaGreatDoor.Sm
