/- Sums. -/
import Derived.Test.YtnfobnnbeefeeaaGreatDoorGS4
import Derived.Test.YtnfobnnbeefeeaaGreatDoorGS6
namespace Go.Proofs.YtnfobnnbeefeeaaGreatDoor.Sm
open Go Go.RowKit
theorem four_set (A B : List UInt8) (k : Nat) (hk : A.length = k) (z0 z1 z2 z3 b0 b1 b2 b3 : UInt8) : ((((A ++ z0 :: z1 :: z2 :: z3 :: B).set (k + 3) b3).set (k + 2) b2).set (k + 1) b1).set k b0 = A ++ b0 :: b1 :: b2 :: b3 :: B := by
  subst hk
  simp [List.set_append_right]
/-- A row after so many of a word's bytes, the last first. -/
def jb (L : List UInt8) (i x : Nat) : Nat → List UInt8
  | 0 => L
  | t + 1 => (jb L i x t).set (4 * i + (3 - t)) (UInt8.ofNat (x / 256 ^ t))
theorem jb_length (L : List UInt8) (i x : Nat) : ∀ t, (jb L i x t).length = L.length
  | 0 => rfl
  | t + 1 => by simp [jb, jb_length L i x t]
theorem jb_4 (l : List Nat) (hl : l.length = 8) (i : Nat) (hi : i < 8) : jb (obTo l i) i (l.getD i 0) 4 = obTo l (i + 1) := by
  have h1 : (ob (l.take i)).length = 4 * i := by rw [ob_length, List.length_take]; omega
  have hs := obTo_succ l hl i hi
  obtain ⟨r, hr⟩ : ∃ r, 32 - 4 * i = r + 4 := ⟨28 - 4 * i, by omega⟩
  have hz : obTo l i = ob (l.take i) ++ 0 :: 0 :: 0 :: 0 :: List.replicate r 0 := by
    unfold obTo
    rw [hr]; rfl
  rw [← hs, hz]
  generalize ob (l.take i) = A at *
  generalize l.getD i 0 = x
  have hd : (A ++ 0 :: 0 :: 0 :: 0 :: List.replicate r (0 : UInt8)).drop (4 * i + 4) = List.replicate r 0 := by
    rw [← h1, List.drop_append]; simp
  have ht : (A ++ 0 :: 0 :: 0 :: 0 :: List.replicate r (0 : UInt8)).take (4 * i) = A := by
    rw [← h1, List.take_append_of_le_length (Nat.le_refl _), List.take_length]
  rw [hd, ht]
  have := four_set A (List.replicate r 0) (4 * i) h1 0 0 0 0 (UInt8.ofNat (x / 16777216)) (UInt8.ofNat (x / 65536)) (UInt8.ofNat (x / 256)) (UInt8.ofNat (x / 1))
  rw [Nat.div_one] at this
  simpa [jb, ob1] using this
end Go.Proofs.YtnfobnnbeefeeaaGreatDoor.Sm
/- The reference's SHA-256: what its walk wants. -/
namespace Go.Proofs.YtnfobnnbeefeeaaGreatDoor.Sm
open Go Go.RowKit
set_option linter.unusedVariables false

def lenS : Value → Nat
  | .string b => b.size
  | _ => 0
theorem str_app (a b : List UInt8) : str a ++ str b = str (a ++ b) := by
  apply ByteArray.ext
  simp [str]
def tlr (n : Nat) : Nat → List UInt8
  | 0 => []
  | i + 1 => flb n i :: tlr n i
theorem tlr_8 (n : Nat) : tlr n 8 = be8 n := rfl
def padZ (l : List UInt8) (z : Nat) : List UInt8 := l ++ 128 :: List.replicate z 0
theorem padZ_length (l : List UInt8) (z : Nat) : (padZ l z).length = l.length + 1 + z := by simp [padZ]; omega
theorem padZ_succ (l : List UInt8) (z : Nat) : padZ l z ++ [0] = padZ l (z + 1) := by simp [padZ, List.replicate_succ']
def OaRel (l : List UInt8) (t : Nat) (v : Value) (w wr : World) : Prop := ∃ z : Nat, v = .string (str (padZ l z)) ∧ z ≤ t - 1 ∧ wr = w
/-- A word of a chunk, after j of its bytes. -/
def px (c : List UInt8) (i : Nat) : Nat → Nat
  | 0 => 0
  | j + 1 => px c i j * 256 + (c.getD (4 * i + j) 0).toNat
theorem px_lt (c : List UInt8) (i : Nat) : ∀ j, px c i j < 256 ^ j
  | 0 => by simp [px]
  | j + 1 => by
    have := px_lt c i j
    have hb := (c.getD (4 * i + j) 0).toNat_lt
    rw [px, Nat.pow_succ]
    omega
theorem px_4 (c : List UInt8) (i : Nat) : px c i 4 = w16 c i := by
  simp only [px, w16, Nat.add_zero]
  omega
theorem Tryz.infoU32 : (Tryz.prog.info? 81).map (fun i => (i.zero, i.size, i.bytes)) = some (some (.int .u32 0), 1, 4) := by kernel_rfl
def OcRel (w3 : World) (gh : Nat) (P : List UInt8) (M : Nat) (u : Value) (wr : World) : Prop :=
  ∃ m : Nat, u = .int .i64 (64 * (m : Int)) ∧ m ≤ M ∧ wr.heap[gh]? = some (.cells (u32s (blocksR K0 S0 P m)).toArray 81 (0, 0)) ∧ Hs w3 wr gh
def OdRel (wo : World) (c : List UInt8) (v u : Value) (wr : World) : Prop :=
  ∃ i : Nat, u = .int .i64 (i : Int) ∧ i ≤ 16 ∧ wr.ownsRow wo.heap.size 81 1 v i (u32s ((base16 c).take i)) ∧ Below wo.heap.size wo wr
def OeRel (c : List UInt8) (i : Nat) (wd : World) (x u : Value) (wr : World) : Prop :=
  ∃ j : Nat, u = .int .i64 (j : Int) ∧ j ≤ 4 ∧ x = .int .u32 ((px c i j : Nat) : Int) ∧ wr = wd
theorem blocksR_length (K H : List Nat) (P : List UInt8) (hH : H.length = 8) : ∀ m, (blocksR K H P m).length = 8
  | 0 => hH
  | m + 1 => zip8_length _ _
theorem blocksR_lt (K H : List Nat) (P : List UInt8) (hH : ∀ x ∈ H, x < 4294967296) : ∀ m, ∀ x ∈ blocksR K H P m, x < 4294967296
  | 0 => hH
  | m + 1 => fun x hx => by
    simp only [blocksR, mixR, zip8, List.mem_map] at hx
    obtain ⟨_, _, rfl⟩ := hx
    exact Nat.mod_lt _ (by decide)
theorem index_str (P : List UInt8) (q : Nat) (h : q < P.length) (W : World) : (Instr.index 9 (.string (str P)) (.int .i64 (q : Int))).run Tryz.prog W = .ok (.int .u8 (((P.getD q 0).toNat : Nat) : Int)) W := by
  rw [run_index_string W 9 (str P) .i64 (q : Int) Tryz.underlying9]
  have hs : q < (str P).size := by rw [str_size]; exact h
  have hg : (str P)[q]'hs = P[q] := rfl
  simp [hs, hg, List.getD, h]
  rfl
theorem right_q (x : Nat) (w : World) (m n : Nat) (c : Int) (hc : c = (n : Int)) (hx : x < 4294967296) (hn : n ≤ 32) : Calls Tryz.prog 58 #[.int .u32 (x : Int), .int .i64 c] (w.drewN m) fun e w' => e = .returned (.int .u32 ((rotr n x : Nat) : Int)) ∧ ∃ k, w' = w.drewN k := by
  subst hc
  exact (right_any x n hx hn _).mono fun _ _ h => ⟨h.1, m, h.2.symm⟩
theorem less_q (x : Nat) (w : World) (m n : Nat) (c : Int) (hc : c = (n : Int)) (hx : x < 4294967296) (hn : n ≤ 32) : Calls Tryz.prog 59 #[.int .u32 (x : Int), .int .i64 c] (w.drewN m) fun e w' => e = .returned (.int .u32 ((x / 2 ^ n : Nat) : Int)) ∧ ∃ k, w' = w.drewN k := by
  subst hc
  exact (less_any x n hx hn _).mono fun _ _ h => ⟨h.1, m, h.2.symm⟩
theorem rq6 {x : Nat} (w : World) (m : Nat) (hx : x < 4294967296) : Calls Tryz.prog 58 #[.int .u32 (x : Int), .int .i64 6] (w.drewN m) fun e w' => e = .returned (.int .u32 ((rotr 6 x : Nat) : Int)) ∧ ∃ k, w' = w.drewN k := right_q x w m 6 6 rfl hx (by decide)
theorem rq11 {x : Nat} (w : World) (m : Nat) (hx : x < 4294967296) : Calls Tryz.prog 58 #[.int .u32 (x : Int), .int .i64 11] (w.drewN m) fun e w' => e = .returned (.int .u32 ((rotr 11 x : Nat) : Int)) ∧ ∃ k, w' = w.drewN k := right_q x w m 11 11 rfl hx (by decide)
theorem rq25 {x : Nat} (w : World) (m : Nat) (hx : x < 4294967296) : Calls Tryz.prog 58 #[.int .u32 (x : Int), .int .i64 25] (w.drewN m) fun e w' => e = .returned (.int .u32 ((rotr 25 x : Nat) : Int)) ∧ ∃ k, w' = w.drewN k := right_q x w m 25 25 rfl hx (by decide)
theorem rq2 {x : Nat} (w : World) (m : Nat) (hx : x < 4294967296) : Calls Tryz.prog 58 #[.int .u32 (x : Int), .int .i64 2] (w.drewN m) fun e w' => e = .returned (.int .u32 ((rotr 2 x : Nat) : Int)) ∧ ∃ k, w' = w.drewN k := right_q x w m 2 2 rfl hx (by decide)
theorem rq13 {x : Nat} (w : World) (m : Nat) (hx : x < 4294967296) : Calls Tryz.prog 58 #[.int .u32 (x : Int), .int .i64 13] (w.drewN m) fun e w' => e = .returned (.int .u32 ((rotr 13 x : Nat) : Int)) ∧ ∃ k, w' = w.drewN k := right_q x w m 13 13 rfl hx (by decide)
theorem rq22 {x : Nat} (w : World) (m : Nat) (hx : x < 4294967296) : Calls Tryz.prog 58 #[.int .u32 (x : Int), .int .i64 22] (w.drewN m) fun e w' => e = .returned (.int .u32 ((rotr 22 x : Nat) : Int)) ∧ ∃ k, w' = w.drewN k := right_q x w m 22 22 rfl hx (by decide)
theorem rq7 {x : Nat} (w : World) (m : Nat) (hx : x < 4294967296) : Calls Tryz.prog 58 #[.int .u32 (x : Int), .int .i64 7] (w.drewN m) fun e w' => e = .returned (.int .u32 ((rotr 7 x : Nat) : Int)) ∧ ∃ k, w' = w.drewN k := right_q x w m 7 7 rfl hx (by decide)
theorem rq18 {x : Nat} (w : World) (m : Nat) (hx : x < 4294967296) : Calls Tryz.prog 58 #[.int .u32 (x : Int), .int .i64 18] (w.drewN m) fun e w' => e = .returned (.int .u32 ((rotr 18 x : Nat) : Int)) ∧ ∃ k, w' = w.drewN k := right_q x w m 18 18 rfl hx (by decide)
theorem rq17 {x : Nat} (w : World) (m : Nat) (hx : x < 4294967296) : Calls Tryz.prog 58 #[.int .u32 (x : Int), .int .i64 17] (w.drewN m) fun e w' => e = .returned (.int .u32 ((rotr 17 x : Nat) : Int)) ∧ ∃ k, w' = w.drewN k := right_q x w m 17 17 rfl hx (by decide)
theorem rq19 {x : Nat} (w : World) (m : Nat) (hx : x < 4294967296) : Calls Tryz.prog 58 #[.int .u32 (x : Int), .int .i64 19] (w.drewN m) fun e w' => e = .returned (.int .u32 ((rotr 19 x : Nat) : Int)) ∧ ∃ k, w' = w.drewN k := right_q x w m 19 19 rfl hx (by decide)
theorem lq3 {x : Nat} (w : World) (m : Nat) (hx : x < 4294967296) : Calls Tryz.prog 59 #[.int .u32 (x : Int), .int .i64 3] (w.drewN m) fun e w' => e = .returned (.int .u32 ((x / 2 ^ 3 : Nat) : Int)) ∧ ∃ k, w' = w.drewN k := less_q x w m 3 3 rfl hx (by decide)
theorem lq10 {x : Nat} (w : World) (m : Nat) (hx : x < 4294967296) : Calls Tryz.prog 59 #[.int .u32 (x : Int), .int .i64 10] (w.drewN m) fun e w' => e = .returned (.int .u32 ((x / 2 ^ 10 : Nat) : Int)) ∧ ∃ k, w' = w.drewN k := less_q x w m 10 10 rfl hx (by decide)
theorem sig0_walk {x : Nat} (hx : x < 4294967296) : bits BinOp.xor IntKind.u32 (bits BinOp.xor IntKind.u32 ((rotr 7 x : Nat) : Int) ((rotr 18 x : Nat) : Int)) ((x / 2 ^ 3 : Nat) : Int) = ((sig0 x : Nat) : Int) := by
  rw [u32_xor_nat _ _ (rotr_lt (by decide) hx) (rotr_lt (by decide) hx), u32_xor_nat _ _ (xor_lt (rotr_lt (by decide) hx) (rotr_lt (by decide) hx)) (by omega)]
  rfl
theorem Sig1_walk {x : Nat} (hx : x < 4294967296) : bits BinOp.xor IntKind.u32 (bits BinOp.xor IntKind.u32 ((rotr 6 x : Nat) : Int) ((rotr 11 x : Nat) : Int)) ((rotr 25 x : Nat) : Int) = ((Sig1 x : Nat) : Int) := by
  rw [u32_xor_nat _ _ (rotr_lt (by decide) hx) (rotr_lt (by decide) hx), u32_xor_nat _ _ (xor_lt (rotr_lt (by decide) hx) (rotr_lt (by decide) hx)) (rotr_lt (by decide) hx)]
  rfl
theorem Sig0_walk {x : Nat} (hx : x < 4294967296) : bits BinOp.xor IntKind.u32 (bits BinOp.xor IntKind.u32 ((rotr 2 x : Nat) : Int) ((rotr 13 x : Nat) : Int)) ((rotr 22 x : Nat) : Int) = ((Sig0 x : Nat) : Int) := by
  rw [u32_xor_nat _ _ (rotr_lt (by decide) hx) (rotr_lt (by decide) hx), u32_xor_nat _ _ (xor_lt (rotr_lt (by decide) hx) (rotr_lt (by decide) hx)) (rotr_lt (by decide) hx)]
  rfl
theorem sig1_walk {x : Nat} (hx : x < 4294967296) : bits BinOp.xor IntKind.u32 (bits BinOp.xor IntKind.u32 ((rotr 17 x : Nat) : Int) ((rotr 19 x : Nat) : Int)) ((x / 2 ^ 10 : Nat) : Int) = ((sig1 x : Nat) : Int) := by
  rw [u32_xor_nat _ _ (rotr_lt (by decide) hx) (rotr_lt (by decide) hx), u32_xor_nat _ _ (xor_lt (rotr_lt (by decide) hx) (rotr_lt (by decide) hx)) (by omega)]
  rfl
theorem sig0_walk2 {x : Nat} (hx : x < 4294967296) : bits BinOp.xor IntKind.u32 (bits BinOp.xor IntKind.u32 ((rotr 7 x : Nat) : Int) ((rotr 18 x : Nat) : Int)) ((x : Int) / 8) = ((sig0 x : Nat) : Int) := by
  have := sig0_walk hx
  rwa [show ((x / 2 ^ 3 : Nat) : Int) = (x : Int) / 8 by simp] at this
theorem sig1_walk2 {x : Nat} (hx : x < 4294967296) : bits BinOp.xor IntKind.u32 (bits BinOp.xor IntKind.u32 ((rotr 17 x : Nat) : Int) ((rotr 19 x : Nat) : Int)) ((x : Int) / 1024) = ((sig1 x : Nat) : Int) := by
  have := sig1_walk hx
  rwa [show ((x / 2 ^ 10 : Nat) : Int) = (x : Int) / 1024 by simp] at this
theorem u32row_at {wr : World} {base : Nat} {ao : Option Addr} {n c : Nat} {L : List Nat} (h : wr.ownsRow base 81 1 (.slice ao n c) n (u32s L)) (hn : L.length = n) (h0 : 0 < n) :
    ∃ g, ao = some ⟨g, 0, none⟩ ∧ base ≤ g ∧ g < wr.heap.size ∧ (Value.slice ao n c).ownBlock = some g ∧ ∀ k, k < n → wr.cell? ⟨g, k, none⟩ = some (.int .u32 ((L.getD k 0 : Nat) : Int)) := by
  have h' := h
  rcases h.2 with ⟨e, e0⟩ | ⟨g, cap, cur, e, hb, hg, _⟩
  · omega
  · injection e with e1 e2 e3
    subst e1 e3
    refine ⟨g, rfl, hb, (Array.getElem?_eq_some_iff.1 hg).1, rfl, fun k hk => ?_⟩
    rw [h'.cellAt k (by omega)]
    have : k < L.length := by omega
    simp [u32s, List.getD, this]
def OfRel (wo : World) (c : List UInt8) (v u : Value) (wr : World) : Prop :=
  ∃ i : Nat, u = .int .i64 ((16 + i : Nat) : Int) ∧ i ≤ 48 ∧ wr.ownsRow wo.heap.size 81 1 v (16 + i) (u32s (exs c i)) ∧ Below wo.heap.size wo wr
def ObRel (n : Nat) (w : World) (x v u : Value) (wr : World) : Prop := ∃ i : Nat, u = .int .i64 (i : Int) ∧ i ≤ 8 ∧ x = .int .u64 ((8 * n / 2 ^ (8 * i) : Nat) : Int) ∧ v = .string (str (tlr n i)) ∧ Below w.heap.size w wr
theorem src_row {tx e : TypeId} (hk : Tryz.prog.underlying tx = some (.slice e)) (w : World) (g : Nat) (L : List Nat) (n : Nat) (hn : L.length = n) (h0 : 0 < n) (hg : w.heap[g]? = some (.cells (u32s L).toArray e (0, 0))) : Go.Src Tryz.prog 1 tx (.slice (some ⟨g, 0, none⟩) n n) n (u32s L) w :=
  Src.any _ (e' := e) hk _ n n (u32s L) (by simp [u32s, hn]) (fun h => by cases h) (fun a ha j u hu => by
    cases ha
    rw [Addr.add_mid, Nat.zero_add, cell_of_row _ _ j _ _ _ hg]
    simpa using hu) (fun u hu => by
    obtain ⟨_, _, rfl⟩ := List.mem_map.1 hu
    rfl)
/-- A block's eight cells are the eight words. -/
def R8 (w : World) (g : Nat) (S : S8) : Prop :=
  w.cell? ⟨g, 0, none⟩ = some (.int .u32 ((S.a : Nat) : Int)) ∧ w.cell? ⟨g, 1, none⟩ = some (.int .u32 ((S.b : Nat) : Int)) ∧ w.cell? ⟨g, 2, none⟩ = some (.int .u32 ((S.c : Nat) : Int)) ∧ w.cell? ⟨g, 3, none⟩ = some (.int .u32 ((S.d : Nat) : Int)) ∧
  w.cell? ⟨g, 4, none⟩ = some (.int .u32 ((S.e : Nat) : Int)) ∧ w.cell? ⟨g, 5, none⟩ = some (.int .u32 ((S.f : Nat) : Int)) ∧ w.cell? ⟨g, 6, none⟩ = some (.int .u32 ((S.g : Nat) : Int)) ∧ w.cell? ⟨g, 7, none⟩ = some (.int .u32 ((S.h : Nat) : Int))
def OiRel (wp : World) (go : Nat) (l : List Nat) (u : Value) (wr : World) : Prop := ∃ i : Nat, u = .int .i64 (i : Int) ∧ i ≤ 8 ∧ wr.heap[go]? = some (.cells (bvs (obTo l i)).toArray 22 (0, 0)) ∧ Below go wp wr
def OjRel (wi : World) (go : Nat) (L : List UInt8) (i x : Nat) (v u : Value) (wr : World) : Prop :=
  ∃ t : Nat, u = .int .i64 (3 - (t : Int)) ∧ t ≤ 4 ∧ v = .int .u32 ((x / 256 ^ t : Nat) : Int) ∧ wr.heap[go]? = some (.cells (bvs (jb L i x t)).toArray 22 (0, 0)) ∧ Below go wi wr
theorem chJ {e f g : Nat} (he : e < 4294967296) (hf : f < 4294967296) (hg : g < 4294967296) :
    bits BinOp.xor IntKind.u32 (bits BinOp.and IntKind.u32 (e : Int) (f : Int)) (bits BinOp.and IntKind.u32 (4294967295 - (e : Int)) (g : Int)) = (ch e f g : Int) := by
  rw [show (4294967295 : Int) - (e : Int) = ((4294967295 - e : Nat) : Int) by omega, u32_and_nat _ _ he hf, u32_and_nat _ _ (by omega) hg, u32_xor_nat _ _ (and_lt he) (and_lt (by omega))]
  rfl
theorem R8.get {w : World} {g : Nat} {S : S8} (h : R8 w g S) : ∀ k, k < 8 → w.cell? ⟨g, k, none⟩ = some (.int .u32 ((S.list.getD k 0 : Nat) : Int)) := by
  intro k hk
  obtain ⟨r0, r1, r2, r3, r4, r5, r6, r7⟩ := h
  rcases (by omega : k = 0 ∨ k = 1 ∨ k = 2 ∨ k = 3 ∨ k = 4 ∨ k = 5 ∨ k = 6 ∨ k = 7) with rfl | rfl | rfl | rfl | rfl | rfl | rfl | rfl
  · exact r0
  · exact r1
  · exact r2
  · exact r3
  · exact r4
  · exact r5
  · exact r6
  · exact r7
theorem S8.list_length (S : S8) : S.list.length = 8 := rfl
theorem mixR_eq {K X : List Nat} {S : S8} (c : List UInt8) (H : List Nat) (hX : X = exs c 48) (hS : S = rnds X K (S8.of H) 64) : mixR K H c = zip8 H S.list := by
  rw [hS, hX, mixR]
theorem R8.new (w : World) (t : TypeId) (S : S8) (x y : Int) (hx : x = ((S.a : Nat) : Int)) (hy : y = ((S.e : Nat) : Int)) :
    R8 (w.alloc (.cells #[.int .u32 x, .int .u32 ((S.b : Nat) : Int), .int .u32 ((S.c : Nat) : Int), .int .u32 ((S.d : Nat) : Int), .int .u32 y, .int .u32 ((S.f : Nat) : Int), .int .u32 ((S.g : Nat) : Int), .int .u32 ((S.h : Nat) : Int)] t)) w.heap.size S := by
  subst hx hy
  refine ⟨?_, ?_, ?_, ?_, ?_, ?_, ?_, ?_⟩ <;> (rw [cell_of_row _ _ _ _ _ _ (heap_alloc_new w _)]; rfl)
def OhRel (wq : World) (gh : Nat) (H N : List Nat) (u : Value) (wr : World) : Prop := ∃ i : Nat, u = .int .i64 (i : Int) ∧ i ≤ 8 ∧ wr.heap[gh]? = some (.cells (u32s (zipTo H N i)).toArray 81 (0, 0)) ∧ Hs wq wr gh
def OgRel (wl : World) (X H : List Nat) (v u : Value) (wr : World) : Prop :=
  ∃ i g cp : Nat, u = .int .i64 (i : Int) ∧ i ≤ 64 ∧ v = .slice (some ⟨g, 0, none⟩) 8 cp ∧ wl.heap.size ≤ g ∧ g < wr.heap.size ∧ R8 wr g (rnds X K0 (S8.of H) i) ∧ Below wl.heap.size wl wr
theorem K0_lt : ∀ x ∈ K0, x < 4294967296 := by decide
theorem S8.of_ok {l : List Nat} (h : ∀ x ∈ l, x < 4294967296) : (S8.of l).ok := ⟨getD_lt h 0, getD_lt h 1, getD_lt h 2, getD_lt h 3, getD_lt h 4, getD_lt h 5, getD_lt h 6, getD_lt h 7⟩
/-- The loop whose first region has this number. -/
def headReg : Code → Nat
  | .region i _ _ => i
  | .seq a _ => headReg a
  | .block _ c => headReg c
  | _ => 0
def findLoop (k : Nat) : Code → Option Code
  | .loop c => bif headReg c == k then some (.loop c) else findLoop k c
  | .seq a b => match findLoop k a with | some c => some c | none => findLoop k b
  | .cond _ a b => match findLoop k a with | some c => some c | none => findLoop k b
  | .block _ c => findLoop k c
  | .scope c => findLoop k c
  | _ => none
def loopOf (k : Nat) (b : Option Code) : Code := match b with | some c => (match findLoop k c with | some d => d | none => .skip) | none => .skip
end Go.Proofs.YtnfobnnbeefeeaaGreatDoor.Sm
/- The reference's SHA-256: the loop of the rounds. -/
namespace Go.Proofs.YtnfobnnbeefeeaaGreatDoor.Sm
open Go Go.RowKit
set_option linter.unusedVariables false

set_option maxRecDepth 100000 in
set_option maxHeartbeats 16000000 in
theorem loopG {Q : Exit → Act → World → Prop} {gk g9 c9 : Nat} {X H : List Nat} {wf w' : World} {v' : Value} {s0 s1 s2 s4 s5 s6 s7 s8 s10 s11 s12 s13 s14 s15 s18 s19 s20 s21 s22 s23 s24 s25 s26 s27 s28 s29 s30 s31 s32 s33 s34 s35 s36 s37 s38 s39 s40 s41 s42 s43 s44 s45 s46 s47 s48 s49 s50 s51 s52 s53 s54 s55 s56 s57 s58 s59 s60 s61 s62 s63 s64 s65 s66 s67 s68 s69 s70 s71 s72 s73 s74 s75 s76 s77 s78 s79 s80 s81 s82 s83 s84 s85 s86 s87 s88 s89 s90 s91 s92 s93 s94 s95 s96 s97 s98 s99 s100 s101 s102 s103 s104 s105 s106 s107 s108 s109 s110 s111 s112 s113 s114 s115 s116 s117 s118 s119 s120 s121 s122 s123 s124 s125 s126 s127 s128 s129 s130 s131 s132 s133 s134 s135 s136 s137 s138 s139 s140 s141 s142 s143 s144 s145 s146 s147 s148 s149 s150 s151 s152 s153 s154 s155 s156 s157 s158 s159 s160 s161 s162 s163 s164 s165 s166 s167 s168 s169 s170 s171 s172 s173 s174 s175 s176 s177 s178 s179 s180 s181 s182 s183 s184 s185 s186 s187 s188 s189 s190 s191 s192 s193 s194 s195 s196 s197 s198 s199 s200 s201 s202 s203 s204 s205 s206 s207 s208 s209 s210 s211 s212 s213 s214 s215 s216 s217 s218 s219 s220 s221 s222 s223 s224 s225 s226 s227 s228 s229 s230 s231 s232 s233 s234 s235 s236 s237 s238 s239 s240 s241 s242 s243 s244 s245 s246 s247 s248 s249 s250 s251 s252 s253 s254 s255 s256 s257 s258 s259 s260 s261 s262 s263 s264 s265 s266 s267 s268 s269 s270 s271 s272 s273 s274 s275 s276 s277 s278 s279 s280 s281 s282 s283 s284 s285 s286 s287 s288 s289 s290 s291 s292 s293 s294 s295 s296 s297 s298 s299 s300 s301 s302 s303 s304 s305 : Value} (hg9l : g9 < wf.heap.size) (HHT : Hid (∀ x ∈ H, x < 4294967296))
    (HCX : Hid (∀ k, k < 64 → wf.cell? ⟨g9, k, none⟩ = some (.int .u32 ((X.getD k 0 : Nat) : Int)))) (HXL : Hid (∀ q, X.getD q 0 < 4294967296))
    (KC : Hid (∀ wr0 : World, Below wf.heap.size wf wr0 → ∀ i, i < 64 → wr0.cell? ⟨gk, i, none⟩ = some (.int .u32 ((K0.getD i 0 : Nat) : Int)))) (HR0 : Hid (OgRel wf X H v' (.int .i64 0) w'))
    (hQ : ∀ (v2 : Value) (wr : World) (x18 x19 x20 x21 x152 x153 x154 x155 x156 x157 x158 x159 x160 x161 x162 x163 x164 x165 x166 x167 x168 x169 x170 x171 x172 x173 x174 x175 x176 x177 x178 x179 x180 x181 x182 x183 x184 x185 x186 x187 x188 x189 x190 x191 x192 x193 x194 x195 x196 x197 x198 x199 x200 x201 x202 x203 x204 x205 x206 x207 x208 x209 x210 x211 x212 x213 x214 x215 x216 x217 x218 x219 x220 x221 x222 x223 x224 x225 x226 x227 x228 x229 x230 x231 x232 x233 x234 x235 x236 x237 x238 x239 x240 x241 x242 x243 x244 x245 x246 x247 x248 x249 x250 x251 x252 x253 x254 x255 x256 x257 x258 x259 x260 x261 x262 x263 x264 x265 x266 x267 : Value), OgRel wf X H v2 (.int .i64 64) wr → Q .normal { tmps := #[s0, s1, s2, .slice (some ⟨gk, 0, none⟩) 64 64, s4, s5, s6, s7, s8, .slice (some ⟨g9, 0, none⟩) 64 c9, s10, s11, s12, s13, s14, s15, v2, .int .i64 64, x18, x19, x20, x21, s22, s23, s24, s25, s26, s27, s28, s29, s30, s31, s32, s33, s34, s35, s36, s37, s38, s39, s40, s41, s42, s43, s44, s45, s46, s47, s48, s49, s50, s51, s52, s53, s54, s55, s56, s57, s58, s59, s60, s61, s62, s63, s64, s65, s66, s67, s68, s69, s70, s71, s72, s73, s74, s75, s76, s77, s78, s79, s80, s81, s82, s83, s84, s85, s86, s87, s88, s89, s90, s91, s92, s93, s94, s95, s96, s97, s98, s99, s100, s101, s102, s103, s104, s105, s106, s107, s108, s109, s110, s111, s112, s113, s114, s115, s116, s117, s118, s119, s120, s121, s122, s123, s124, s125, s126, s127, s128, s129, s130, s131, s132, s133, s134, s135, s136, s137, s138, s139, s140, s141, s142, s143, s144, s145, s146, s147, s148, s149, s150, s151, x152, x153, x154, x155, x156, x157, x158, x159, x160, x161, x162, x163, x164, x165, x166, x167, x168, x169, x170, x171, x172, x173, x174, x175, x176, x177, x178, x179, x180, x181, x182, x183, x184, x185, x186, x187, x188, x189, x190, x191, x192, x193, x194, x195, x196, x197, x198, x199, x200, x201, x202, x203, x204, x205, x206, x207, x208, x209, x210, x211, x212, x213, x214, x215, x216, x217, x218, x219, x220, x221, x222, x223, x224, x225, x226, x227, x228, x229, x230, x231, x232, x233, x234, x235, x236, x237, x238, x239, x240, x241, x242, x243, x244, x245, x246, x247, x248, x249, x250, x251, x252, x253, x254, x255, x256, x257, x258, x259, x260, x261, x262, x263, x264, x265, x266, x267, s268, s269, s270, s271, s272, s273, s274, s275, s276, s277, s278, s279, s280, s281, s282, s283, s284, s285, s286, s287, s288, s289, s290, s291, s292, s293, s294, s295, s296, s297, s298, s299, s300, s301, s302, s303, s304, s305], defers := [] } wr) :
    (loopOf 35 Tryz.f16.body).wp Tryz.prog (Exit.inBlock 12 Q) { tmps := #[s0, s1, s2, .slice (some ⟨gk, 0, none⟩) 64 64, s4, s5, s6, s7, s8, .slice (some ⟨g9, 0, none⟩) 64 c9, s10, s11, s12, s13, s14, s15, v', .int .i64 0, s18, s19, s20, s21, s22, s23, s24, s25, s26, s27, s28, s29, s30, s31, s32, s33, s34, s35, s36, s37, s38, s39, s40, s41, s42, s43, s44, s45, s46, s47, s48, s49, s50, s51, s52, s53, s54, s55, s56, s57, s58, s59, s60, s61, s62, s63, s64, s65, s66, s67, s68, s69, s70, s71, s72, s73, s74, s75, s76, s77, s78, s79, s80, s81, s82, s83, s84, s85, s86, s87, s88, s89, s90, s91, s92, s93, s94, s95, s96, s97, s98, s99, s100, s101, s102, s103, s104, s105, s106, s107, s108, s109, s110, s111, s112, s113, s114, s115, s116, s117, s118, s119, s120, s121, s122, s123, s124, s125, s126, s127, s128, s129, s130, s131, s132, s133, s134, s135, s136, s137, s138, s139, s140, s141, s142, s143, s144, s145, s146, s147, s148, s149, s150, s151, s152, s153, s154, s155, s156, s157, s158, s159, s160, s161, s162, s163, s164, s165, s166, s167, s168, s169, s170, s171, s172, s173, s174, s175, s176, s177, s178, s179, s180, s181, s182, s183, s184, s185, s186, s187, s188, s189, s190, s191, s192, s193, s194, s195, s196, s197, s198, s199, s200, s201, s202, s203, s204, s205, s206, s207, s208, s209, s210, s211, s212, s213, s214, s215, s216, s217, s218, s219, s220, s221, s222, s223, s224, s225, s226, s227, s228, s229, s230, s231, s232, s233, s234, s235, s236, s237, s238, s239, s240, s241, s242, s243, s244, s245, s246, s247, s248, s249, s250, s251, s252, s253, s254, s255, s256, s257, s258, s259, s260, s261, s262, s263, s264, s265, s266, s267, s268, s269, s270, s271, s272, s273, s274, s275, s276, s277, s278, s279, s280, s281, s282, s283, s284, s285, s286, s287, s288, s289, s290, s291, s292, s293, s294, s295, s296, s297, s298, s299, s300, s301, s302, s303, s304, s305], defers := [] } w' := by
  dsimp only at hQ ⊢
  have HQ := Lib.hid hQ
  clear hQ
  conv => arg 2; whnf
  go_loopw [16, 17] (fun v u wr' => OgRel wf X H v u wr') (fun _ u _ => 64 - (intOf u).toNat)
  case atStart => exact HR0.out
  case round =>
    clear HR0
    obtain ⟨wr0, rfl⟩ : ∃ wr0 : World, wr0 = wr := ⟨_, rfl⟩
    obtain ⟨i, g, cp, rfl, hi, rfl, hg, hgl, hR8, hBr⟩ := hrel
    by_cases hi64 : i < 64
    · have hok := rnds_ok (X := X) (K := K0) (S8.of_ok HHT.out) i
      have hst : rnds X K0 (S8.of H) (i + 1) = rnd (X.getD i 0) (K0.getD i 0) (rnds X K0 (S8.of H) i) := rfl
      have HST := Lib.hid hst
      generalize rnds X K0 (S8.of H) i = S at *
      have xi := (hBr.cell (p := ⟨g9, i, none⟩) hg9l).trans (HCX.out i hi64)
      have ki := KC.out wr0 hBr i hi64
      have xl := HXL.out i
      have kl : K0.getD i 0 < 4294967296 := getD_lt K0_lt i
      generalize X.getD i 0 = x at *
      generalize K0.getD i 0 = k0 at *
      obtain ⟨a, b, c0, d, e, f, g0, h0⟩ := S
      obtain ⟨o1, o2, o3, o4, o5, o6, o7, o8⟩ := hok
      have R := Lib.hid hR8
      obtain ⟨r0, r1, r2, r3, r4, r5, r6, r7⟩ := hR8
      have hglwr0 := hgl
      clear hgl
      dsimp only at o1 o2 o3 o4 o5 o6 o7 o8 r0 r1 r2 r3 r4 r5 r6 r7
      clear hst
      have HBr := Lib.hid hBr
      clear hBr
      go_wp2_with fail
      go_quiet (first | (go_at_call 58; with_reducible exact rq6 wr0 _ o5) | (go_at_call 58; with_reducible exact rq11 wr0 _ o5) | (go_at_call 58; with_reducible exact rq25 wr0 _ o5))
      rw [Sig1_walk o5]
      clear r0 r1 r2 r3 r4 r5 r6 r7
      obtain ⟨wa, hwa⟩ : ∃ wa, wa = wr0.drewN nq := ⟨_, rfl⟩
      rw [← hwa]
      have RR := Lib.hid (show R8 wa g ⟨a, b, c0, d, e, f, g0, h0⟩ by rw [hwa]; exact R.out)
      have hglwa : g < wa.heap.size := by rw [hwa]; exact hglwr0
      have BB := Lib.hid (show Below wf.heap.size wf wa by rw [hwa]; exact below_drewN HBr.out nq)
      have xia : wa.cell? ⟨g9, i, none⟩ = some (.int .u32 ((x : Nat) : Int)) := by rw [hwa]; exact xi
      have kia : wa.cell? ⟨gk, i, none⟩ = some (.int .u32 ((k0 : Nat) : Int)) := by rw [hwa]; exact ki
      clear xi ki
      clear R HBr hwa hglwr0
      have R := RR
      have HBr := BB
      clear RR BB
      obtain ⟨z1, hz1⟩ : ∃ z1, z1 = Sig1 e := ⟨_, rfl⟩
      rw [← hz1]
      have HZ1 := Lib.hid hz1
      have hz1l : z1 < 4294967296 := by rw [hz1]; exact Sig1_lt o5
      clear hz1
      have ii64 : (i : Int) < 64 := by omega
      obtain ⟨r0, r1, r2, r3, r4, r5, r6, r7⟩ := R.out
      dsimp only at r0 r1 r2 r3 r4 r5 r6 r7
      go_wp2_with fail
      go_quiet (fail)
      rw [chJ o5 o6 o7]
      obtain ⟨T, hT⟩ : ∃ T, T = (h0 + z1 + ch e f g0 + x + k0) % 4294967296 := ⟨_, rfl⟩
      rw [show (((h0 : Int) + (z1 : Int) + ((ch e f g0 : Nat) : Int) + (k0 : Int)) % 4294967296 + (x : Int)) % 4294967296 = ((T : Nat) : Int) from by omega]
      have hTl : T < 4294967296 := by omega
      have HT := Lib.hid hT
      clear hT xia kia
      clear r0 r1 r2 r3 r4 r5 r6 r7
      obtain ⟨wb, hwb⟩ : ∃ wb, wb = wa.drewN nq := ⟨_, rfl⟩
      rw [← hwb]
      have RR := Lib.hid (show R8 wb g ⟨a, b, c0, d, e, f, g0, h0⟩ by rw [hwb]; exact R.out)
      have hglwb : g < wb.heap.size := by rw [hwb]; exact hglwa
      have BB := Lib.hid (show Below wf.heap.size wf wb by rw [hwb]; exact below_drewN HBr.out nq)
      clear R HBr hwb hglwa
      have R := RR
      have HBr := BB
      clear RR BB
      obtain ⟨r0, r1, r2, r3, r4, r5, r6, r7⟩ := R.out
      dsimp only at r0 r1 r2 r3 r4 r5 r6 r7
      go_wp2_with fail
      go_quiet (first | (go_at_call 58; with_reducible exact rq2 wb _ o1) | (go_at_call 58; with_reducible exact rq13 wb _ o1) | (go_at_call 58; with_reducible exact rq22 wb _ o1))
      rw [Sig0_walk o1]
      clear r0 r1 r2 r3 r4 r5 r6 r7
      obtain ⟨wc, hwc⟩ : ∃ wc, wc = wb.drewN nq := ⟨_, rfl⟩
      rw [← hwc]
      have RR := Lib.hid (show R8 wc g ⟨a, b, c0, d, e, f, g0, h0⟩ by rw [hwc]; exact R.out)
      have hglwc : g < wc.heap.size := by rw [hwc]; exact hglwb
      have BB := Lib.hid (show Below wf.heap.size wf wc by rw [hwc]; exact below_drewN HBr.out nq)
      clear R HBr hwc hglwb
      have R := RR
      have HBr := BB
      clear RR BB
      obtain ⟨r0, r1, r2, r3, r4, r5, r6, r7⟩ := R.out
      dsimp only at r0 r1 r2 r3 r4 r5 r6 r7
      obtain ⟨z0, hz0⟩ : ∃ z0, z0 = Sig0 a := ⟨_, rfl⟩
      rw [← hz0]
      have HZ0 := Lib.hid hz0
      have hz0l : z0 < 4294967296 := by rw [hz0]; exact Sig0_lt o1
      clear hz0
      go_wp2_with fail
      go_quiet (fail)
      rw [majI o1 o2 o3]
      have hml : maj a b c0 < 4294967296 := xor_lt (xor_lt (and_lt o1) (and_lt o1)) (and_lt o2)
      obtain ⟨T2, hT2⟩ : ∃ T2, T2 = (z0 + maj a b c0) % 4294967296 := ⟨_, rfl⟩
      rw [show ((z0 : Int) + ((maj a b c0 : Nat) : Int)) % 4294967296 = ((T2 : Nat) : Int) from by omega]
      have hT2l : T2 < 4294967296 := by omega
      have HT2 := Lib.hid hT2
      clear hT2 hml
      clear r0 r1 r2 r3 r4 r5 r6 r7
      obtain ⟨we, hwe⟩ : ∃ we, we = wc.drewN nq := ⟨_, rfl⟩
      rw [← hwe]
      have RR := Lib.hid (show R8 we g ⟨a, b, c0, d, e, f, g0, h0⟩ by rw [hwe]; exact R.out)
      have hglwe : g < we.heap.size := by rw [hwe]; exact hglwc
      have BB := Lib.hid (show Below wf.heap.size wf we by rw [hwe]; exact below_drewN HBr.out nq)
      clear R HBr hwe hglwc
      have R := RR
      have HBr := BB
      clear RR BB
      obtain ⟨r0, r1, r2, r3, r4, r5, r6, r7⟩ := R.out
      dsimp only at r0 r1 r2 r3 r4 r5 r6 r7
      go_wp2_with fail
      (refine wp_region_quiet_tail 26 (by kernel_rfl) (by kernel_rfl) ?_; simp only [List.take_succ_cons, List.take_zero, List.drop_succ_cons, List.drop_zero]; (repeat (go_big_quiet_step (fail))); refine wpQuiet_nil ?_; intro _ hw'; obtain ⟨nq, hw''⟩ := hw'; subst hw'')
      clear r0 r1 r2 r3 r4 r5 r6 r7
      obtain ⟨wz, hwz⟩ : ∃ wz, wz = we.drewN nq := ⟨_, rfl⟩
      rw [← hwz]
      have RR := Lib.hid (show R8 wz g ⟨a, b, c0, d, e, f, g0, h0⟩ by rw [hwz]; exact R.out)
      have hglwz : g < wz.heap.size := by rw [hwz]; exact hglwe
      have BB := Lib.hid (show Below wf.heap.size wf wz by rw [hwz]; exact below_drewN HBr.out nq)
      clear R HBr hwz hglwe
      have R := RR
      have HBr := BB
      clear RR BB
      go_wp2_with fail
      have ht : tt ⟨a, b, c0, d, e, f, g0, h0⟩ x k0 = T := by
        rw [HT.out, HZ1.out]; rfl
      refine ⟨⟨i + 1, wz.heap.size, 8, by go_num, by omega, rfl, HBr.out.size, by simp, ?_, HBr.out.alloc HBr.out.size _⟩, by simp [intOf]; omega⟩
      rw [HST.out]
      refine R8.new wz 81 (rnd x k0 ⟨a, b, c0, d, e, f, g0, h0⟩) _ _ ?_ ?_
      · show ((T : Int) + (T2 : Int)) % 4294967296 = (((tt ⟨a, b, c0, d, e, f, g0, h0⟩ x k0 + Sig0 a + maj a b c0) % 4294967296 : Nat) : Int)
        rw [ht, ← HZ0.out]
        have := HT2.out
        omega
      · show ((d : Int) + (T : Int)) % 4294967296 = (((d + tt ⟨a, b, c0, d, e, f, g0, h0⟩ x k0) % 4294967296 : Nat) : Int)
        rw [ht]
        omega
    · obtain rfl : i = 64 := by omega
      rw [show ((64 : Nat) : Int) = 64 from rfl]
      have hO : OgRel wf X H (.slice (some ⟨g, 0, none⟩) 8 cp) (.int .i64 64) wr0 := ⟨64, g, cp, rfl, Nat.le_refl _, rfl, hg, hgl, hR8, hBr⟩
      have HO := Lib.hid hO
      clear hR8 hBr hO KC HCX HXL HHT hi64
      go_wp2_with fail
      exact HQ.out _ _ _ _ _ _ _ _ _ _ _ _ _ _ _ _ _ _ _ _ _ _ _ _ _ _ _ _ _ _ _ _ _ _ _ _ _ _ _ _ _ _ _ _ _ _ _ _ _ _ _ _ _ _ _ _ _ _ _ _ _ _ _ _ _ _ _ _ _ _ _ _ _ _ _ _ _ _ _ _ _ _ _ _ _ _ _ _ _ _ _ _ _ _ _ _ _ _ _ _ _ _ _ _ _ _ _ _ _ _ _ _ _ _ _ _ _ _ _ _ _ _ HO.out
end Go.Proofs.YtnfobnnbeefeeaaGreatDoor.Sm
