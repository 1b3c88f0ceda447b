/- A block's 64 words. -/
import Derived.Test.YtejbookaflnpeabDoorRnd
import Derived.StillTailTactics
import Derived.Test.YtejbookaflnpeabDoorQt
namespace Go.Proofs.YtejbookaflnpeabDoor
open Go Go.RowKit
set_option linter.unusedVariables false

/-- A byte as a cell; bytes as cells. -/
def bv (b : UInt8) : Value := .int .u8 (b.toNat : Int)
def bvs (l : List UInt8) : List Value := l.map bv
theorem bvs_length (l : List UInt8) : (bvs l).length = l.length := by simp [bvs]
theorem u32s_length (l : List Nat) : (u32s l).length = l.length := by simp [u32s]

/-- A Hash's cells. -/
def hcells (G : List Nat) (B : List UInt8) (n : Nat) : List Value := u32s G ++ bvs B ++ [.int .u64 (n : Int)]
def HashAt (w : World) (b : Nat) (G : List Nat) (B : List UInt8) (n : Nat) : Prop :=
  G.length = 8 ∧ B.length = 64 ∧ w.heap[b]? = some (.cells (hcells G B n).toArray 54 (0, 0))
theorem HashAt.gained {w : World} {b : Nat} {G : List Nat} {B : List UInt8} {n : Nat} (h : HashAt w b G B n) (i : Nat) (hi : i < 8) : w.cell? ⟨b, i, none⟩ = some (.int .u32 ((G.getD i 0 : Nat) : Int)) := by
  obtain ⟨h1, h2, h3⟩ := h
  rw [cell_of_row w b i _ _ _ h3]
  have : i < G.length := by omega
  simp [hcells, List.getElem?_append, u32s, this, List.getD]
theorem HashAt.byte {w : World} {b : Nat} {G : List Nat} {B : List UInt8} {n : Nat} (h : HashAt w b G B n) (i : Nat) (hi : i < 64) : w.cell? ⟨b, 8 + i, none⟩ = some (.int .u8 ((B.getD i 0).toNat : Int)) := by
  obtain ⟨h1, h2, h3⟩ := h
  rw [cell_of_row w b (8 + i) _ _ _ h3]
  have : i < B.length := by omega
  simp [hcells, List.getElem?_append, u32s, bvs, this, h1, List.getD, bv]
theorem HashAt.count {w : World} {b : Nat} {G : List Nat} {B : List UInt8} {n : Nat} (h : HashAt w b G B n) : w.cell? ⟨b, 72, none⟩ = some (.int .u64 (n : Int)) := by
  obtain ⟨h1, h2, h3⟩ := h
  rw [cell_of_row w b 72 _ _ _ h3]
  simp [hcells, u32s, bvs, h1, h2]
theorem HashAt.lt {w : World} {b : Nat} {G : List Nat} {B : List UInt8} {n : Nat} (h : HashAt w b G B n) : b < w.heap.size := (Array.getElem?_eq_some_iff.1 h.2.2).1
theorem HashAt.below {w w' : World} {b : Nat} {G : List Nat} {B : List UInt8} {n : Nat} {C : Nat} (h : HashAt w b G B n) (hB : Below C w w') (hb : b < C) : HashAt w' b G B n := ⟨h.1, h.2.1, (hB.block b hb).trans h.2.2⟩

/-- Four bytes as a number, the highest first. -/
def w16 (B : List UInt8) (i : Nat) : Nat := (B.getD (4 * i) 0).toNat * 16777216 + (B.getD (4 * i + 1) 0).toNat * 65536 + (B.getD (4 * i + 2) 0).toNat * 256 + (B.getD (4 * i + 3) 0).toNat
def base16 (B : List UInt8) : List Nat := (List.range 16).map (w16 B)
def ex (l : List Nat) : List Nat := l ++ [(l.getD (l.length - 16) 0 + sig0 (l.getD (l.length - 15) 0) + l.getD (l.length - 7) 0 + sig1 (l.getD (l.length - 2) 0)) % 4294967296]
def exs (B : List UInt8) : Nat → List Nat
  | 0 => base16 B
  | i + 1 => ex (exs B i)
theorem exs_length (B : List UInt8) : ∀ i, (exs B i).length = 16 + i
  | 0 => by simp [exs, base16]
  | i + 1 => by simp [exs, ex, exs_length B i]; omega
theorem Tryd.len64 : Tryd.prog.arrayLen 51 = 64 := by kernel_rfl
theorem Tryd.info5 : (Tryd.prog.info? 5).map (fun i => (i.zero, i.size, i.bytes)) = some (some (.int .u8 0), 1, 1) := by kernel_rfl
/-- An array of 64 bytes, cut from a place on. -/
theorem slice64 (b o l : Nat) (x : Int) (hx : x = (l : Int)) (hl : l < 64) (k : IntKind) (w : World) :
    (Instr.sliceAt 51 (.pointer (some ⟨b, o, none⟩)) (some (.int k x)) none none).run Tryd.prog w = .ok (.slice (some ⟨b, o + l, none⟩) (64 - l) (64 - l)) w := by
  subst hx
  have h := run_sliceAt_array_l (P := Tryd.prog) w 51 ⟨b, o, none⟩ (by kernel_rfl) k (l : Int) (by omega) (by rw [Tryd.len64]; omega)
  obtain ⟨i0, hi, hz0, hz1, hz2⟩ := info_parts Tryd.info5
  have he : Tryd.prog.elem 51 = 5 := by kernel_rfl
  have hsz : (sizeOf 5).run Tryd.prog w = .ok 1 w := by simp [sizeOf, typeInfo, hi, hz1]
  rw [h, Tryd.len64, he, hsz]
  simp only [Result.andThen_ok, slicedAt, Int.toNat_natCast, Nat.mul_one]
  rw [if_neg (by omega), Addr.add_mid]

def Z64 : List Value := u32s (List.replicate 64 0)
theorem Z64_eq : Z64.toArray = #[.int .u32 0, .int .u32 0, .int .u32 0, .int .u32 0, .int .u32 0, .int .u32 0, .int .u32 0, .int .u32 0, .int .u32 0, .int .u32 0, .int .u32 0, .int .u32 0, .int .u32 0, .int .u32 0, .int .u32 0, .int .u32 0, .int .u32 0, .int .u32 0, .int .u32 0, .int .u32 0, .int .u32 0, .int .u32 0, .int .u32 0, .int .u32 0, .int .u32 0, .int .u32 0, .int .u32 0, .int .u32 0, .int .u32 0, .int .u32 0, .int .u32 0, .int .u32 0, .int .u32 0, .int .u32 0, .int .u32 0, .int .u32 0, .int .u32 0, .int .u32 0, .int .u32 0, .int .u32 0, .int .u32 0, .int .u32 0, .int .u32 0, .int .u32 0, .int .u32 0, .int .u32 0, .int .u32 0, .int .u32 0, .int .u32 0, .int .u32 0, .int .u32 0, .int .u32 0, .int .u32 0, .int .u32 0, .int .u32 0, .int .u32 0, .int .u32 0, .int .u32 0, .int .u32 0, .int .u32 0, .int .u32 0, .int .u32 0, .int .u32 0, .int .u32 0] := by kernel_rfl
def WdRel (w : World) (L : Nat → List Nat) (m : Nat) (u : Value) (wr : World) : Prop :=
  ∃ i : Nat, u = .int .i64 (i : Int) ∧ i ≤ m ∧ wr.heap[w.heap.size + 1]? = some (.cells (u32s (L i)).toArray 115 (0, 0)) ∧ wr.heap[w.heap.size]? = some (.cells Z64.toArray 115 (0, 0)) ∧ Below w.heap.size w wr ∧ wr.heap.size = w.heap.size + 1 + 1

def L1 (B : List UInt8) (i : Nat) : List Nat := (base16 B).take i ++ List.replicate (64 - i) 0
def L2 (B : List UInt8) (i : Nat) : List Nat := exs B i ++ List.replicate (48 - i) 0
theorem base16_length (B : List UInt8) : (base16 B).length = 16 := by simp [base16]
theorem L1_length (B : List UInt8) {i : Nat} (hi : i ≤ 16) : (L1 B i).length = 64 := by simp [L1, base16_length]; omega
theorem L2_length (B : List UInt8) {i : Nat} (hi : i ≤ 48) : (L2 B i).length = 64 := by simp [L2, exs_length]; omega
theorem L1_set (B : List UInt8) {i : Nat} (hi : i < 16) : (L1 B i).set i (w16 B i) = L1 B (i + 1) := by
  unfold L1
  have h1 : ((base16 B).take i).length = i := by simp [base16_length]; omega
  rw [List.set_append_right _ _ (by omega), h1, Nat.sub_self, show 64 - i = (64 - (i + 1)) + 1 by omega, List.replicate_succ, List.set_cons_zero,
    List.take_succ_eq_append_getElem (by rw [base16_length]; exact hi), List.append_assoc]
  simp [base16]
theorem L1_L2 (B : List UInt8) : L1 B 16 = L2 B 0 := by
  have : (base16 B).take 16 = base16 B := List.take_of_length_le (by rw [base16_length]; omega)
  simp [L1, L2, exs, this]
theorem w16_lt (B : List UInt8) (i : Nat) : w16 B i < 4294967296 := by
  unfold w16
  have h0 := (B.getD (4 * i) 0).toNat_lt
  have h1 := (B.getD (4 * i + 1) 0).toNat_lt
  have h2 := (B.getD (4 * i + 2) 0).toNat_lt
  have h3 := (B.getD (4 * i + 3) 0).toNat_lt
  omega
theorem u32s_set (l : List Nat) (i x : Nat) : (u32s l).set i (.int .u32 (x : Int)) = u32s (l.set i x) := by simp [u32s, List.map_set]

theorem exs_all (B : List UInt8) : ∀ i, ∀ x ∈ exs B i, x < 4294967296
  | 0, x, hx => by
    simp only [exs, base16, List.mem_map] at hx
    obtain ⟨k, _, rfl⟩ := hx
    exact w16_lt B k
  | i + 1, x, hx => by
    simp only [exs, ex, List.mem_append, List.mem_singleton] at hx
    rcases hx with hx | rfl
    · exact exs_all B i x hx
    · exact Nat.mod_lt _ (by decide)
theorem getD_lt {l : List Nat} (h : ∀ x ∈ l, x < 4294967296) (k : Nat) : l.getD k 0 < 4294967296 := by
  by_cases hk : k < l.length
  · simp only [List.getD, List.getElem?_eq_getElem hk, Option.getD_some]
    exact h _ (List.getElem_mem hk)
  · simp [List.getD, List.getElem?_eq_none (Nat.le_of_not_lt hk)]
theorem L2_lt (B : List UInt8) (i k : Nat) : (L2 B i).getD k 0 < 4294967296 := by
  refine getD_lt (fun x hx => ?_) k
  simp only [L2, List.mem_append, List.mem_replicate] at hx
  rcases hx with hx | hx
  · exact exs_all B i x hx
  · rw [hx.2]; decide
theorem L2_get (B : List UInt8) {i k : Nat} (hk : k < 16 + i) : (L2 B i).getD k 0 = (exs B i).getD k 0 := by
  simp [L2, List.getD, List.getElem?_append, exs_length, hk]
theorem L2_set (B : List UInt8) {i : Nat} (hi : i < 48) : (L2 B i).set (i + 16) (((L2 B i).getD i 0 + sig0 ((L2 B i).getD (i + 1) 0) + (L2 B i).getD (i + 9) 0 + sig1 ((L2 B i).getD (i + 14) 0)) % 4294967296) = L2 B (i + 1) := by
  rw [L2_get B (k := i) (by omega), L2_get B (k := i + 1) (by omega), L2_get B (k := i + 9) (by omega), L2_get B (k := i + 14) (by omega)]
  have hl := exs_length B i
  have e : exs B (i + 1) = exs B i ++ [((exs B i).getD i 0 + sig0 ((exs B i).getD (i + 1) 0) + (exs B i).getD (i + 9) 0 + sig1 ((exs B i).getD (i + 14) 0)) % 4294967296] := by
    show ex (exs B i) = _
    unfold ex
    rw [hl, show 16 + i - 16 = i by omega, show 16 + i - 15 = i + 1 by omega, show 16 + i - 7 = i + 9 by omega, show 16 + i - 2 = i + 14 by omega]
  unfold L2
  rw [e, List.set_append_right _ _ (by omega), show i + 16 - (exs B i).length = 0 by omega, show 48 - i = (48 - (i + 1)) + 1 by omega, List.replicate_succ, List.set_cons_zero, List.append_assoc]
  rfl
theorem small_0q (x : Nat) (w : World) (m : Nat) (hx : x < 4294967296) : Calls Tryd.prog 67 #[.int .u32 (x : Int), .int .i64 7, .int .i64 18, .int .i64 3] (w.drewN m) fun e w' => e = .returned (.int .u32 (sig0 x : Int)) ∧ ∃ n, w' = w.drewN n :=
  Calls.quiet_of (small_0 x _ hx)
theorem small_1q (x : Nat) (w : World) (m : Nat) (hx : x < 4294967296) : Calls Tryd.prog 67 #[.int .u32 (x : Int), .int .i64 17, .int .i64 19, .int .i64 10] (w.drewN m) fun e w' => e = .returned (.int .u32 (sig1 x : Int)) ∧ ∃ n, w' = w.drewN n :=
  Calls.quiet_of (small_1 x _ hx)
theorem wordI {x0 x1 x2 x3 : Nat} (h0 : x0 < 256) (h1 : x1 < 256) (h2 : x2 < 256) (h3 : x3 < 256) :
    bits BinOp.or IntKind.u32 (bits BinOp.or IntKind.u32 (bits BinOp.or IntKind.u32 ((x0 : Int) * 16777216) ((x1 : Int) * 65536)) ((x2 : Int) * 256)) (x3 : Int) = ((x0 * 16777216 + x1 * 65536 + x2 * 256 + x3 : Nat) : Int) := by
  have a0 : (x0 : Int) * 16777216 = ((x0 * 16777216 : Nat) : Int) := by simp
  have a1 : (x1 : Int) * 65536 = ((x1 * 65536 : Nat) : Int) := by simp
  have a2 : (x2 : Int) * 256 = ((x2 * 256 : Nat) : Int) := by simp
  rw [a0, a1, a2, u32_or_nat _ _ (by omega) (by omega), nat_join 24 _ _ (by omega) (by omega), u32_or_nat _ _ (by omega) (by omega), nat_join 16 _ _ (by omega) (by omega),
    u32_or_nat _ _ (by omega) (by omega), nat_join 8 _ _ (by omega) (by omega)]
theorem heap_drew (w : World) : w.drew.heap = w.heap := rfl

/-- But for what was drawn the same world. -/
def Same (a w : World) : Prop := w.heap = a.heap ∧ w.tape = a.tape ∧ w.os = a.os ∧ w.output = a.output
theorem Same.refl (a : World) : Same a a := ⟨rfl, rfl, rfl, rfl⟩
theorem Same.drew {a w : World} (h : Same a w) : Same a w.drew := h
theorem Same.drewN {a w : World} (h : Same a w) (n : Nat) : Same a (w.drewN n) := h
theorem Same.below {a w w' : World} {C : Nat} (h : Same a w') (hB : Below C w a) : Below C w w' :=
  ⟨h.2.2.1.trans hB.os, h.2.1.trans hB.tape, h.2.2.2.trans hB.output, by rw [h.1]; exact hB.size, fun g hg => by rw [h.1]; exact hB.block g hg⟩

def WdPost (w : World) (B : List UInt8) (e : Ending) (w' : World) : Prop := e = .returned (.agg (u32s (exs B 48)).toArray) ∧ Below w.heap.size w w'
set_option maxRecDepth 100000 in
set_option maxHeartbeats 12000000 in
theorem words_any {w : World} {b : Nat} {G : List Nat} {B : List UInt8} {n : Nat} (h : HashAt w b G B n) :
    Calls Tryd.prog 57 #[.pointer (some ⟨b, 0, none⟩)] w (WdPost w B) := by
  have hb := h.lt
  obtain ⟨w2, hw2⟩ : ∃ w2, w2 = (w.alloc (.cells #[.int .u32 0, .int .u32 0, .int .u32 0, .int .u32 0, .int .u32 0, .int .u32 0, .int .u32 0, .int .u32 0, .int .u32 0, .int .u32 0, .int .u32 0, .int .u32 0, .int .u32 0, .int .u32 0, .int .u32 0, .int .u32 0, .int .u32 0, .int .u32 0, .int .u32 0, .int .u32 0, .int .u32 0, .int .u32 0, .int .u32 0, .int .u32 0, .int .u32 0, .int .u32 0, .int .u32 0, .int .u32 0, .int .u32 0, .int .u32 0, .int .u32 0, .int .u32 0, .int .u32 0, .int .u32 0, .int .u32 0, .int .u32 0, .int .u32 0, .int .u32 0, .int .u32 0, .int .u32 0, .int .u32 0, .int .u32 0, .int .u32 0, .int .u32 0, .int .u32 0, .int .u32 0, .int .u32 0, .int .u32 0, .int .u32 0, .int .u32 0, .int .u32 0, .int .u32 0, .int .u32 0, .int .u32 0, .int .u32 0, .int .u32 0, .int .u32 0, .int .u32 0, .int .u32 0, .int .u32 0, .int .u32 0, .int .u32 0, .int .u32 0, .int .u32 0] 115)).alloc (.cells #[.int .u32 0, .int .u32 0, .int .u32 0, .int .u32 0, .int .u32 0, .int .u32 0, .int .u32 0, .int .u32 0, .int .u32 0, .int .u32 0, .int .u32 0, .int .u32 0, .int .u32 0, .int .u32 0, .int .u32 0, .int .u32 0, .int .u32 0, .int .u32 0, .int .u32 0, .int .u32 0, .int .u32 0, .int .u32 0, .int .u32 0, .int .u32 0, .int .u32 0, .int .u32 0, .int .u32 0, .int .u32 0, .int .u32 0, .int .u32 0, .int .u32 0, .int .u32 0, .int .u32 0, .int .u32 0, .int .u32 0, .int .u32 0, .int .u32 0, .int .u32 0, .int .u32 0, .int .u32 0, .int .u32 0, .int .u32 0, .int .u32 0, .int .u32 0, .int .u32 0, .int .u32 0, .int .u32 0, .int .u32 0, .int .u32 0, .int .u32 0, .int .u32 0, .int .u32 0, .int .u32 0, .int .u32 0, .int .u32 0, .int .u32 0, .int .u32 0, .int .u32 0, .int .u32 0, .int .u32 0, .int .u32 0, .int .u32 0, .int .u32 0, .int .u32 0] 115) := ⟨_, rfl⟩
  have b0 : w2.heap[w.heap.size]? = some (.cells Z64.toArray 115 (0, 0)) := by
    rw [hw2, Below.heap_alloc _ _ _ (by simp), Z64_eq]; exact heap_alloc_new w _
  have b1 : w2.heap[w.heap.size + 1]? = some (.cells (u32s (L1 B 0)).toArray 115 (0, 0)) := by
    rw [show u32s (L1 B 0) = Z64 from by simp [L1, Z64], hw2, Z64_eq]
    have := heap_alloc_new (w.alloc (.cells #[.int .u32 0, .int .u32 0, .int .u32 0, .int .u32 0, .int .u32 0, .int .u32 0, .int .u32 0, .int .u32 0, .int .u32 0, .int .u32 0, .int .u32 0, .int .u32 0, .int .u32 0, .int .u32 0, .int .u32 0, .int .u32 0, .int .u32 0, .int .u32 0, .int .u32 0, .int .u32 0, .int .u32 0, .int .u32 0, .int .u32 0, .int .u32 0, .int .u32 0, .int .u32 0, .int .u32 0, .int .u32 0, .int .u32 0, .int .u32 0, .int .u32 0, .int .u32 0, .int .u32 0, .int .u32 0, .int .u32 0, .int .u32 0, .int .u32 0, .int .u32 0, .int .u32 0, .int .u32 0, .int .u32 0, .int .u32 0, .int .u32 0, .int .u32 0, .int .u32 0, .int .u32 0, .int .u32 0, .int .u32 0, .int .u32 0, .int .u32 0, .int .u32 0, .int .u32 0, .int .u32 0, .int .u32 0, .int .u32 0, .int .u32 0, .int .u32 0, .int .u32 0, .int .u32 0, .int .u32 0, .int .u32 0, .int .u32 0, .int .u32 0, .int .u32 0] 115)) (.cells #[.int .u32 0, .int .u32 0, .int .u32 0, .int .u32 0, .int .u32 0, .int .u32 0, .int .u32 0, .int .u32 0, .int .u32 0, .int .u32 0, .int .u32 0, .int .u32 0, .int .u32 0, .int .u32 0, .int .u32 0, .int .u32 0, .int .u32 0, .int .u32 0, .int .u32 0, .int .u32 0, .int .u32 0, .int .u32 0, .int .u32 0, .int .u32 0, .int .u32 0, .int .u32 0, .int .u32 0, .int .u32 0, .int .u32 0, .int .u32 0, .int .u32 0, .int .u32 0, .int .u32 0, .int .u32 0, .int .u32 0, .int .u32 0, .int .u32 0, .int .u32 0, .int .u32 0, .int .u32 0, .int .u32 0, .int .u32 0, .int .u32 0, .int .u32 0, .int .u32 0, .int .u32 0, .int .u32 0, .int .u32 0, .int .u32 0, .int .u32 0, .int .u32 0, .int .u32 0, .int .u32 0, .int .u32 0, .int .u32 0, .int .u32 0, .int .u32 0, .int .u32 0, .int .u32 0, .int .u32 0, .int .u32 0, .int .u32 0, .int .u32 0, .int .u32 0] 115)
    simpa using this
  have hs2 : w2.heap.size = w.heap.size + 1 + 1 := by rw [hw2]; simp
  have hB2 : Below w.heap.size w w2 := by rw [hw2]; exact ((Below.refl _ _).alloc (Nat.le_refl _) _).alloc (by simp) _
  have HW := Lib.hid hw2
  have H0 := Lib.hid b0
  have H1 := Lib.hid b1
  have HS := Lib.hid hs2
  clear hw2 b0 b1 hs2
  go_enter Tryd.func57, Tryd.ntmps57
  go_wp2
  rw [← HW.out]
  go_loopw [7] (fun u wr => WdRel w (L1 B) 16 u wr) (fun u _ => 16 - (intOf u).toNat)
  case atStart => exact ⟨0, rfl, Nat.zero_le _, H1.out, H0.out, hB2, HS.out⟩
  case round =>
    obtain ⟨i, rfl, hi, r1, r0, hBr, hsr⟩ := hrel
    by_cases h16 : i < 16
    · have hh := h.below hBr hb
      have c0 := hh.byte (4 * i) (by omega)
      have c1 : wr.cell? ⟨b, 8 + 4 * i + 1, none⟩ = _ := hh.byte (4 * i + 1) (by omega)
      have c2 : wr.cell? ⟨b, 8 + 4 * i + 2, none⟩ = _ := hh.byte (4 * i + 2) (by omega)
      have c3 : wr.cell? ⟨b, 8 + 4 * i + 3, none⟩ = _ := hh.byte (4 * i + 3) (by omega)
      have l3 : (3 : Int) < ((64 - 4 * i : Nat) : Int) := by omega
      have l2 : (2 : Int) < ((64 - 4 * i : Nat) : Int) := by omega
      have l1 : (1 : Int) < ((64 - 4 * i : Nat) : Int) := by omega
      have l0 : 0 < 64 - 4 * i := by omega
      have m1 : 1 < 64 - 4 * i := by omega
      have m2 : 2 < 64 - 4 * i := by omega
      have m3 : 3 < 64 - 4 * i := by omega
      have gc : wr.cell? ⟨w.heap.size + 1, i, none⟩ = some (.int .u32 (((L1 B i).getD i 0 : Nat) : Int)) := by
        rw [cell_of_row wr _ i _ _ _ r1]
        simpa using u32s_get (L1 B i) i (by rw [L1_length B hi]; omega)
      have gf : wr.frozen? ⟨w.heap.size + 1, i, none⟩ = false := frozen_of_row wr _ i _ _ r1
      have e0 : (B.getD (4 * i) 0).toNat < 256 := (B.getD (4 * i) 0).toNat_lt
      have e1 : (B.getD (4 * i + 1) 0).toNat < 256 := (B.getD (4 * i + 1) 0).toNat_lt
      have e2 : (B.getD (4 * i + 2) 0).toNat < 256 := (B.getD (4 * i + 2) 0).toNat_lt
      have e3 : (B.getD (4 * i + 3) 0).toNat < 256 := (B.getD (4 * i + 3) 0).toNat_lt
      have R1 := Lib.hid r1
      have R0 := Lib.hid r0
      have RS := Lib.hid hsr
      have hw := w16_lt B i
      have hwi : w16 B i = (B.getD (4 * i) 0).toNat * 16777216 + (B.getD (4 * i + 1) 0).toNat * 65536 + (B.getD (4 * i + 2) 0).toNat * 256 + (B.getD (4 * i + 3) 0).toNat := rfl
      have HWI := Lib.hid hwi
      generalize (B.getD (4 * i) 0).toNat = x0 at *
      generalize (B.getD (4 * i + 1) 0).toNat = x1 at *
      generalize (B.getD (4 * i + 2) 0).toNat = x2 at *
      generalize (B.getD (4 * i + 3) 0).toNat = x3 at *
      have w1 : IntKind.i64.wrap (4 * (i : Int)) = 4 * (i : Int) := IntWalk.i64_in _ (by omega)
      have w2' : (0 : Int) ≤ 4 * (i : Int) := by omega
      have w3 : (4 * (i : Int)).toNat = 4 * i := by omega
      have w4 : 4 * i ≤ 64 := by omega
      have w5 : ¬ 64 = 4 * i := by omega
      have hi64 : (i : Int) < 64 := by omega
      have hi0 : (0 : Int) ≤ (i : Int) := by omega
      have sl := slice64 b 8 (4 * i) (4 * (i : Int)) (by omega) (by omega) .i64 wr
      clear hsr r1 r0 hh hwi w1 w2' w3 w4 w5
      go_wp2
      go_still_tail 24, (by kernel_rfl)
      change wpList _ _ _ _ _ wr.drew
      go_wp2
      refine ⟨⟨i + 1, by go_num, by omega, ?_, ?_, ?_, ?_⟩, by simp [intOf]; omega⟩
      · rw [wordI e0 e1 e2 e3, ← HWI.out, heap_drew, heap_setCell_same wr _ i _ _ _ R1.out]
        have := u32s_set (L1 B i) i (w16 B i)
        rw [L1_set B h16] at this
        simp [← this]
      · rw [heap_drew, heap_setCell_other _ _ _ _ (by simp)]; exact R0.out
      · exact ((hBr.setCell (by simp) _).drew)
      · simpa using RS.out
    · obtain rfl : i = 16 := by omega
      rw [L1_L2] at r1
      have R1 := Lib.hid r1
      have R0 := Lib.hid r0
      have RS := Lib.hid hsr
      clear hsr r1 r0
      go_wp2
      go_loopw [41] (fun u wr => WdRel w (L2 B) 48 u wr) (fun u _ => 48 - (intOf u).toNat)
      case atStart => exact ⟨0, rfl, Nat.zero_le _, R1.out, R0.out, hBr, RS.out⟩
      case round =>
        clear R1 R0 RS hBr HW H0 H1 HS hB2
        obtain ⟨i, rfl, hi, r1, r0, hBr, hsr⟩ := hrel
        by_cases h48 : i < 48
        · have gx : ∀ k, k < 64 → wr.cell? ⟨w.heap.size + 1, k, none⟩ = some (.int .u32 (((L2 B i).getD k 0 : Nat) : Int)) := by
            intro k hk
            rw [cell_of_row wr _ k _ _ _ r1]
            simpa using u32s_get (L2 B i) k (by rw [L2_length B hi]; exact hk)
          have c0 := gx i (by omega)
          have c1 := gx (i + 1) (by omega)
          have c9 := gx (i + 9) (by omega)
          have c14 := gx (i + 14) (by omega)
          have c16 := gx (i + 16) (by omega)
          have gf : ∀ k, wr.frozen? ⟨w.heap.size + 1, k, none⟩ = false := fun k => frozen_of_row wr _ k _ _ r1
          have R1 := Lib.hid r1
          have R0 := Lib.hid r0
          have RS := Lib.hid hsr
          clear hsr r1 r0 gx
          have hy1 := L2_lt B i (i + 1)
          have hy14 := L2_lt B i (i + 14)
          have hn := L2_set B h48
          have HN := Lib.hid hn
          clear hn
          generalize (L2 B i).getD i 0 = y0 at *
          generalize (L2 B i).getD (i + 1) 0 = y1 at *
          generalize (L2 B i).getD (i + 9) 0 = y9 at *
          generalize (L2 B i).getD (i + 14) 0 = y14 at *
          generalize (L2 B i).getD (i + 16) 0 = y16 at *
          have sm := Same.refl wr
          have j0 : (i : Int) < 64 := by omega
          have j1 : (i : Int) + 1 < 64 := by omega
          have j9 : (i : Int) + 9 < 64 := by omega
          have j14 : (i : Int) + 14 < 64 := by omega
          have j16 : (i : Int) + 16 < 64 := by omega
          have gf16 := gf (i + 16)
          have p0 : (0 : Int) ≤ (i : Int) := by omega
          have p1 : (0 : Int) ≤ (i : Int) + 1 := by omega
          have p9 : (0 : Int) ≤ (i : Int) + 9 := by omega
          have p14 : (0 : Int) ≤ (i : Int) + 14 := by omega
          have p16 : (0 : Int) ≤ (i : Int) + 16 := by omega
          have q1 : ((i : Int) + 1).toNat = i + 1 := by omega
          have q9 : ((i : Int) + 9).toNat = i + 9 := by omega
          have q14 : ((i : Int) + 14).toNat = i + 14 := by omega
          have q16 : ((i : Int) + 16).toNat = i + 16 := by omega
          have v1 : IntKind.i64.wrap ((i : Int) + 1) = (i : Int) + 1 := IntWalk.i64_in _ (by omega)
          have v9 : IntKind.i64.wrap ((i : Int) + 9) = (i : Int) + 9 := IntWalk.i64_in _ (by omega)
          have v14 : IntKind.i64.wrap ((i : Int) + 14) = (i : Int) + 14 := IntWalk.i64_in _ (by omega)
          have v16 : IntKind.i64.wrap ((i : Int) + 16) = (i : Int) + 16 := IntWalk.i64_in _ (by omega)
          have t1 : i + 1 < 64 := by omega
          have t9 : i + 9 < 64 := by omega
          have t14 : i + 14 < 64 := by omega
          have t16 : i + 16 < 64 := by omega
          go_wp2_with fail
          (refine wp_region_quiet_tail 22 (by kernel_rfl) (by kernel_rfl) ?_; simp only [List.take_succ_cons, List.take_zero, List.drop_succ_cons, List.drop_zero]; (repeat (go_big_quiet_step (first | (go_at_call_of 67 (Value.int .u32 (y1 : Int)); exact small_0q y1 wr _ hy1) | (go_at_call_of 67 (Value.int .u32 (y14 : Int)); exact small_1q y14 wr _ hy14)))); refine wpQuiet_nil ?_; intro _ hw'; obtain ⟨nq, hw''⟩ := hw'; subst hw'')
          go_wp2
          refine ⟨⟨i + 1, by go_num, by omega, ?_, ?_, ?_, ?_⟩, by simp [intOf]; omega⟩
          · rw [heap_setCell_same (wr.drewN nq) _ (i + 16) _ _ _ R1.out, ← HN.out]
            have hv : ∀ x : Nat, (u32s (L2 B i)).toArray.setIfInBounds (i + 16) (.int .u32 (x : Int)) = (u32s ((L2 B i).set (i + 16) x)).toArray := by
              intro x
              rw [← u32s_set]; simp
            rw [← hv]
            congr 2
          · rw [heap_setCell_other _ _ _ _ (by simp)]; exact R0.out
          · exact (below_drewN hBr nq).setCell (by simp) _
          · simpa using RS.out
        · obtain rfl : i = 48 := by omega
          have R1 := Lib.hid r1
          have R0 := Lib.hid r0
          have RS := Lib.hid hsr
          have h48 : L2 B 48 = exs B 48 := by simp [L2]
          rw [h48] at r1
          have R1 := Lib.hid r1
          have hsz : (u32s (exs B 48)).toArray.size = 64 := by simp [u32s, exs_length]
          have sz := Lib.hid (show (Tryd.prog.info? 115).map (·.size) = some (u32s (exs B 48)).toArray.size by rw [hsz]; kernel_rfl)
          have so := Lib.hid (show Z64.toArray.size = (u32s (exs B 48)).toArray.size by rw [hsz]; simp [Z64, u32s])
          have s1 := Lib.hid (show (u32s (exs B 48)).toArray.all (·.oneCell') = true from all_oneCell_toArray (u32s_one _))
          clear hsr r1 r0 h48 hsz
          go_wp2_with (first
            | (refine wpList_load_row rfl 115 (.tmp 3) rfl (w.heap.size + 1) rfl 115 _ (0, 0) _ R1.out Tryd.underlying115 rfl sz.out ?_)
            | (refine wpList_store_all rfl 115 (.tmp 2) (.tmp 68) rfl w.heap.size 115 Z64.toArray (u32s (exs B 48)).toArray rfl rfl R0.out sz.out so.out s1.out ?_))
          refine bodyPost_ret (results_cell_row rfl _ _ w.heap.size 115 (u32s (exs B 48)).toArray (0, 0) _ rfl (setRow_heap wr _ _ _ _ (0, 0) R0.out) Tryd.underlying115 rfl sz.out) rfl ?_
          exact ⟨rfl, below_setRow hBr (Nat.le_refl _) _⟩
end Go.Proofs.YtejbookaflnpeabDoor
