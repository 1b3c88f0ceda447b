/- The reference's SHA-256: what its walk wants. -/
import Derived.Test.YtejbookaflnpeaaDoorRf
import Derived.Test.YtejbookaflnpeaaDoorRc
import Derived.Test.YtejbookaflnpeaaDoorJb
namespace Go.Proofs.YtejbookaflnpeaaDoor
open Go Go.RowKit
set_option linter.unusedVariables false

def lenS : Value → Nat
  | .string b => b.size
  | _ => 0
theorem str_app (a b : List UInt8) : str a ++ str b = str (a ++ b) := by
  apply ByteArray.ext
  simp [str]
def tlr (n : Nat) : Nat → List UInt8
  | 0 => []
  | i + 1 => flb n i :: tlr n i
theorem tlr_8 (n : Nat) : tlr n 8 = be8 n := rfl
def padZ (l : List UInt8) (z : Nat) : List UInt8 := l ++ 128 :: List.replicate z 0
theorem padZ_length (l : List UInt8) (z : Nat) : (padZ l z).length = l.length + 1 + z := by simp [padZ]; omega
theorem padZ_succ (l : List UInt8) (z : Nat) : padZ l z ++ [0] = padZ l (z + 1) := by simp [padZ, List.replicate_succ']
def OaRel (l : List UInt8) (t : Nat) (v : Value) (w wr : World) : Prop := ∃ z : Nat, v = .string (str (padZ l z)) ∧ z ≤ t - 1 ∧ wr = w
/-- A word of a chunk, after j of its bytes. -/
def px (c : List UInt8) (i : Nat) : Nat → Nat
  | 0 => 0
  | j + 1 => px c i j * 256 + (c.getD (4 * i + j) 0).toNat
theorem px_lt (c : List UInt8) (i : Nat) : ∀ j, px c i j < 256 ^ j
  | 0 => by simp [px]
  | j + 1 => by
    have := px_lt c i j
    have hb := (c.getD (4 * i + j) 0).toNat_lt
    rw [px, Nat.pow_succ]
    omega
theorem px_4 (c : List UInt8) (i : Nat) : px c i 4 = w16 c i := by
  simp only [px, w16, Nat.add_zero]
  omega
theorem Tryd.infoU32 : (Tryd.prog.info? 24).map (fun i => (i.zero, i.size, i.bytes)) = some (some (.int .u32 0), 1, 4) := by kernel_rfl
def OcRel (w3 : World) (gh : Nat) (P : List UInt8) (M : Nat) (u : Value) (wr : World) : Prop :=
  ∃ m : Nat, u = .int .i64 (64 * (m : Int)) ∧ m ≤ M ∧ wr.heap[gh]? = some (.cells (u32s (blocksR K0 S0 P m)).toArray 24 (0, 0)) ∧ Hs w3 wr gh
def OdRel (wo : World) (c : List UInt8) (v u : Value) (wr : World) : Prop :=
  ∃ i : Nat, u = .int .i64 (i : Int) ∧ i ≤ 16 ∧ wr.ownsRow wo.heap.size 24 1 v i (u32s ((base16 c).take i)) ∧ Below wo.heap.size wo wr
def OeRel (c : List UInt8) (i : Nat) (wd : World) (x u : Value) (wr : World) : Prop :=
  ∃ j : Nat, u = .int .i64 (j : Int) ∧ j ≤ 4 ∧ x = .int .u32 ((px c i j : Nat) : Int) ∧ wr = wd
theorem blocksR_length (K H : List Nat) (P : List UInt8) (hH : H.length = 8) : ∀ m, (blocksR K H P m).length = 8
  | 0 => hH
  | m + 1 => zip8_length _ _
theorem blocksR_lt (K H : List Nat) (P : List UInt8) (hH : ∀ x ∈ H, x < 4294967296) : ∀ m, ∀ x ∈ blocksR K H P m, x < 4294967296
  | 0 => hH
  | m + 1 => fun x hx => by
    simp only [blocksR, mixR, zip8, List.mem_map] at hx
    obtain ⟨_, _, rfl⟩ := hx
    exact Nat.mod_lt _ (by decide)
theorem index_str (P : List UInt8) (q : Nat) (h : q < P.length) (W : World) : (Instr.index 9 (.string (str P)) (.int .i64 (q : Int))).run Tryd.prog W = .ok (.int .u8 (((P.getD q 0).toNat : Nat) : Int)) W := by
  rw [run_index_string W 9 (str P) .i64 (q : Int) Tryd.underlying9]
  have hs : q < (str P).size := by rw [str_size]; exact h
  have hg : (str P)[q]'hs = P[q] := rfl
  simp [hs, hg, List.getD, h]
  rfl
theorem right_q (x : Nat) (w : World) (m n : Nat) (c : Int) (hc : c = (n : Int)) (hx : x < 4294967296) (hn : n ≤ 32) : Calls Tryd.prog 38 #[.int .u32 (x : Int), .int .i64 c] (w.drewN m) fun e w' => e = .returned (.int .u32 ((rotr n x : Nat) : Int)) ∧ ∃ k, w' = w.drewN k := by
  subst hc
  exact (right_any x n hx hn _).mono fun _ _ h => ⟨h.1, m, h.2.symm⟩
theorem less_q (x : Nat) (w : World) (m n : Nat) (c : Int) (hc : c = (n : Int)) (hx : x < 4294967296) (hn : n ≤ 32) : Calls Tryd.prog 39 #[.int .u32 (x : Int), .int .i64 c] (w.drewN m) fun e w' => e = .returned (.int .u32 ((x / 2 ^ n : Nat) : Int)) ∧ ∃ k, w' = w.drewN k := by
  subst hc
  exact (less_any x n hx hn _).mono fun _ _ h => ⟨h.1, m, h.2.symm⟩
theorem rq6 {x : Nat} (w : World) (m : Nat) (hx : x < 4294967296) : Calls Tryd.prog 38 #[.int .u32 (x : Int), .int .i64 6] (w.drewN m) fun e w' => e = .returned (.int .u32 ((rotr 6 x : Nat) : Int)) ∧ ∃ k, w' = w.drewN k := right_q x w m 6 6 rfl hx (by decide)
theorem rq11 {x : Nat} (w : World) (m : Nat) (hx : x < 4294967296) : Calls Tryd.prog 38 #[.int .u32 (x : Int), .int .i64 11] (w.drewN m) fun e w' => e = .returned (.int .u32 ((rotr 11 x : Nat) : Int)) ∧ ∃ k, w' = w.drewN k := right_q x w m 11 11 rfl hx (by decide)
theorem rq25 {x : Nat} (w : World) (m : Nat) (hx : x < 4294967296) : Calls Tryd.prog 38 #[.int .u32 (x : Int), .int .i64 25] (w.drewN m) fun e w' => e = .returned (.int .u32 ((rotr 25 x : Nat) : Int)) ∧ ∃ k, w' = w.drewN k := right_q x w m 25 25 rfl hx (by decide)
theorem rq2 {x : Nat} (w : World) (m : Nat) (hx : x < 4294967296) : Calls Tryd.prog 38 #[.int .u32 (x : Int), .int .i64 2] (w.drewN m) fun e w' => e = .returned (.int .u32 ((rotr 2 x : Nat) : Int)) ∧ ∃ k, w' = w.drewN k := right_q x w m 2 2 rfl hx (by decide)
theorem rq13 {x : Nat} (w : World) (m : Nat) (hx : x < 4294967296) : Calls Tryd.prog 38 #[.int .u32 (x : Int), .int .i64 13] (w.drewN m) fun e w' => e = .returned (.int .u32 ((rotr 13 x : Nat) : Int)) ∧ ∃ k, w' = w.drewN k := right_q x w m 13 13 rfl hx (by decide)
theorem rq22 {x : Nat} (w : World) (m : Nat) (hx : x < 4294967296) : Calls Tryd.prog 38 #[.int .u32 (x : Int), .int .i64 22] (w.drewN m) fun e w' => e = .returned (.int .u32 ((rotr 22 x : Nat) : Int)) ∧ ∃ k, w' = w.drewN k := right_q x w m 22 22 rfl hx (by decide)
theorem rq7 {x : Nat} (w : World) (m : Nat) (hx : x < 4294967296) : Calls Tryd.prog 38 #[.int .u32 (x : Int), .int .i64 7] (w.drewN m) fun e w' => e = .returned (.int .u32 ((rotr 7 x : Nat) : Int)) ∧ ∃ k, w' = w.drewN k := right_q x w m 7 7 rfl hx (by decide)
theorem rq18 {x : Nat} (w : World) (m : Nat) (hx : x < 4294967296) : Calls Tryd.prog 38 #[.int .u32 (x : Int), .int .i64 18] (w.drewN m) fun e w' => e = .returned (.int .u32 ((rotr 18 x : Nat) : Int)) ∧ ∃ k, w' = w.drewN k := right_q x w m 18 18 rfl hx (by decide)
theorem rq17 {x : Nat} (w : World) (m : Nat) (hx : x < 4294967296) : Calls Tryd.prog 38 #[.int .u32 (x : Int), .int .i64 17] (w.drewN m) fun e w' => e = .returned (.int .u32 ((rotr 17 x : Nat) : Int)) ∧ ∃ k, w' = w.drewN k := right_q x w m 17 17 rfl hx (by decide)
theorem rq19 {x : Nat} (w : World) (m : Nat) (hx : x < 4294967296) : Calls Tryd.prog 38 #[.int .u32 (x : Int), .int .i64 19] (w.drewN m) fun e w' => e = .returned (.int .u32 ((rotr 19 x : Nat) : Int)) ∧ ∃ k, w' = w.drewN k := right_q x w m 19 19 rfl hx (by decide)
theorem lq3 {x : Nat} (w : World) (m : Nat) (hx : x < 4294967296) : Calls Tryd.prog 39 #[.int .u32 (x : Int), .int .i64 3] (w.drewN m) fun e w' => e = .returned (.int .u32 ((x / 2 ^ 3 : Nat) : Int)) ∧ ∃ k, w' = w.drewN k := less_q x w m 3 3 rfl hx (by decide)
theorem lq10 {x : Nat} (w : World) (m : Nat) (hx : x < 4294967296) : Calls Tryd.prog 39 #[.int .u32 (x : Int), .int .i64 10] (w.drewN m) fun e w' => e = .returned (.int .u32 ((x / 2 ^ 10 : Nat) : Int)) ∧ ∃ k, w' = w.drewN k := less_q x w m 10 10 rfl hx (by decide)
theorem sig0_walk {x : Nat} (hx : x < 4294967296) : bits BinOp.xor IntKind.u32 (bits BinOp.xor IntKind.u32 ((rotr 7 x : Nat) : Int) ((rotr 18 x : Nat) : Int)) ((x / 2 ^ 3 : Nat) : Int) = ((sig0 x : Nat) : Int) := by
  rw [u32_xor_nat _ _ (rotr_lt (by decide) hx) (rotr_lt (by decide) hx), u32_xor_nat _ _ (xor_lt (rotr_lt (by decide) hx) (rotr_lt (by decide) hx)) (by omega)]
  rfl
theorem Sig1_walk {x : Nat} (hx : x < 4294967296) : bits BinOp.xor IntKind.u32 (bits BinOp.xor IntKind.u32 ((rotr 6 x : Nat) : Int) ((rotr 11 x : Nat) : Int)) ((rotr 25 x : Nat) : Int) = ((Sig1 x : Nat) : Int) := by
  rw [u32_xor_nat _ _ (rotr_lt (by decide) hx) (rotr_lt (by decide) hx), u32_xor_nat _ _ (xor_lt (rotr_lt (by decide) hx) (rotr_lt (by decide) hx)) (rotr_lt (by decide) hx)]
  rfl
theorem Sig0_walk {x : Nat} (hx : x < 4294967296) : bits BinOp.xor IntKind.u32 (bits BinOp.xor IntKind.u32 ((rotr 2 x : Nat) : Int) ((rotr 13 x : Nat) : Int)) ((rotr 22 x : Nat) : Int) = ((Sig0 x : Nat) : Int) := by
  rw [u32_xor_nat _ _ (rotr_lt (by decide) hx) (rotr_lt (by decide) hx), u32_xor_nat _ _ (xor_lt (rotr_lt (by decide) hx) (rotr_lt (by decide) hx)) (rotr_lt (by decide) hx)]
  rfl
theorem sig1_walk {x : Nat} (hx : x < 4294967296) : bits BinOp.xor IntKind.u32 (bits BinOp.xor IntKind.u32 ((rotr 17 x : Nat) : Int) ((rotr 19 x : Nat) : Int)) ((x / 2 ^ 10 : Nat) : Int) = ((sig1 x : Nat) : Int) := by
  rw [u32_xor_nat _ _ (rotr_lt (by decide) hx) (rotr_lt (by decide) hx), u32_xor_nat _ _ (xor_lt (rotr_lt (by decide) hx) (rotr_lt (by decide) hx)) (by omega)]
  rfl
theorem sig0_walk2 {x : Nat} (hx : x < 4294967296) : bits BinOp.xor IntKind.u32 (bits BinOp.xor IntKind.u32 ((rotr 7 x : Nat) : Int) ((rotr 18 x : Nat) : Int)) ((x : Int) / 8) = ((sig0 x : Nat) : Int) := by
  have := sig0_walk hx
  rwa [show ((x / 2 ^ 3 : Nat) : Int) = (x : Int) / 8 by simp] at this
theorem sig1_walk2 {x : Nat} (hx : x < 4294967296) : bits BinOp.xor IntKind.u32 (bits BinOp.xor IntKind.u32 ((rotr 17 x : Nat) : Int) ((rotr 19 x : Nat) : Int)) ((x : Int) / 1024) = ((sig1 x : Nat) : Int) := by
  have := sig1_walk hx
  rwa [show ((x / 2 ^ 10 : Nat) : Int) = (x : Int) / 1024 by simp] at this
theorem u32row_at {wr : World} {base : Nat} {ao : Option Addr} {n c : Nat} {L : List Nat} (h : wr.ownsRow base 24 1 (.slice ao n c) n (u32s L)) (hn : L.length = n) (h0 : 0 < n) :
    ∃ g, ao = some ⟨g, 0, none⟩ ∧ base ≤ g ∧ g < wr.heap.size ∧ (Value.slice ao n c).ownBlock = some g ∧ ∀ k, k < n → wr.cell? ⟨g, k, none⟩ = some (.int .u32 ((L.getD k 0 : Nat) : Int)) := by
  have h' := h
  rcases h.2 with ⟨e, e0⟩ | ⟨g, cap, cur, e, hb, hg, _⟩
  · omega
  · injection e with e1 e2 e3
    subst e1 e3
    refine ⟨g, rfl, hb, (Array.getElem?_eq_some_iff.1 hg).1, rfl, fun k hk => ?_⟩
    rw [h'.cellAt k (by omega)]
    have : k < L.length := by omega
    simp [u32s, List.getD, this]
def OfRel (wo : World) (c : List UInt8) (v u : Value) (wr : World) : Prop :=
  ∃ i : Nat, u = .int .i64 ((16 + i : Nat) : Int) ∧ i ≤ 48 ∧ wr.ownsRow wo.heap.size 24 1 v (16 + i) (u32s (exs c i)) ∧ Below wo.heap.size wo wr
def ObRel (n : Nat) (w : World) (x v u : Value) (wr : World) : Prop := ∃ i : Nat, u = .int .i64 (i : Int) ∧ i ≤ 8 ∧ x = .int .u64 ((8 * n / 2 ^ (8 * i) : Nat) : Int) ∧ v = .string (str (tlr n i)) ∧ Below w.heap.size w wr
theorem src_row {tx e : TypeId} (hk : Tryd.prog.underlying tx = some (.slice e)) (w : World) (g : Nat) (L : List Nat) (n : Nat) (hn : L.length = n) (h0 : 0 < n) (hg : w.heap[g]? = some (.cells (u32s L).toArray e (0, 0))) : Go.Src Tryd.prog 1 tx (.slice (some ⟨g, 0, none⟩) n n) n (u32s L) w :=
  Src.any _ (e' := e) hk _ n n (u32s L) (by simp [u32s, hn]) (fun h => by cases h) (fun a ha j u hu => by
    cases ha
    rw [Addr.add_mid, Nat.zero_add, cell_of_row _ _ j _ _ _ hg]
    simpa using hu) (fun u hu => by
    obtain ⟨_, _, rfl⟩ := List.mem_map.1 hu
    rfl)
/-- A block's eight cells are the eight words. -/
def R8 (w : World) (g : Nat) (S : S8) : Prop :=
  w.cell? ⟨g, 0, none⟩ = some (.int .u32 ((S.a : Nat) : Int)) ∧ w.cell? ⟨g, 1, none⟩ = some (.int .u32 ((S.b : Nat) : Int)) ∧ w.cell? ⟨g, 2, none⟩ = some (.int .u32 ((S.c : Nat) : Int)) ∧ w.cell? ⟨g, 3, none⟩ = some (.int .u32 ((S.d : Nat) : Int)) ∧
  w.cell? ⟨g, 4, none⟩ = some (.int .u32 ((S.e : Nat) : Int)) ∧ w.cell? ⟨g, 5, none⟩ = some (.int .u32 ((S.f : Nat) : Int)) ∧ w.cell? ⟨g, 6, none⟩ = some (.int .u32 ((S.g : Nat) : Int)) ∧ w.cell? ⟨g, 7, none⟩ = some (.int .u32 ((S.h : Nat) : Int))
def OiRel (wp : World) (go : Nat) (l : List Nat) (u : Value) (wr : World) : Prop := ∃ i : Nat, u = .int .i64 (i : Int) ∧ i ≤ 8 ∧ wr.heap[go]? = some (.cells (bvs (obTo l i)).toArray 28 (0, 0)) ∧ Below go wp wr
def OjRel (wi : World) (go : Nat) (L : List UInt8) (i x : Nat) (v u : Value) (wr : World) : Prop :=
  ∃ t : Nat, u = .int .i64 (3 - (t : Int)) ∧ t ≤ 4 ∧ v = .int .u32 ((x / 256 ^ t : Nat) : Int) ∧ wr.heap[go]? = some (.cells (bvs (jb L i x t)).toArray 28 (0, 0)) ∧ Below go wi wr
theorem chJ {e f g : Nat} (he : e < 4294967296) (hf : f < 4294967296) (hg : g < 4294967296) :
    bits BinOp.xor IntKind.u32 (bits BinOp.and IntKind.u32 (e : Int) (f : Int)) (bits BinOp.and IntKind.u32 (4294967295 - (e : Int)) (g : Int)) = (ch e f g : Int) := by
  rw [show (4294967295 : Int) - (e : Int) = ((4294967295 - e : Nat) : Int) by omega, u32_and_nat _ _ he hf, u32_and_nat _ _ (by omega) hg, u32_xor_nat _ _ (and_lt he) (and_lt (by omega))]
  rfl
theorem R8.get {w : World} {g : Nat} {S : S8} (h : R8 w g S) : ∀ k, k < 8 → w.cell? ⟨g, k, none⟩ = some (.int .u32 ((S.list.getD k 0 : Nat) : Int)) := by
  intro k hk
  obtain ⟨r0, r1, r2, r3, r4, r5, r6, r7⟩ := h
  rcases (by omega : k = 0 ∨ k = 1 ∨ k = 2 ∨ k = 3 ∨ k = 4 ∨ k = 5 ∨ k = 6 ∨ k = 7) with rfl | rfl | rfl | rfl | rfl | rfl | rfl | rfl
  · exact r0
  · exact r1
  · exact r2
  · exact r3
  · exact r4
  · exact r5
  · exact r6
  · exact r7
theorem S8.list_length (S : S8) : S.list.length = 8 := rfl
theorem mixR_eq {K X : List Nat} {S : S8} (c : List UInt8) (H : List Nat) (hX : X = exs c 48) (hS : S = rnds X K (S8.of H) 64) : mixR K H c = zip8 H S.list := by
  rw [hS, hX, mixR]
theorem R8.new (w : World) (t : TypeId) (S : S8) (x y : Int) (hx : x = ((S.a : Nat) : Int)) (hy : y = ((S.e : Nat) : Int)) :
    R8 (w.alloc (.cells #[.int .u32 x, .int .u32 ((S.b : Nat) : Int), .int .u32 ((S.c : Nat) : Int), .int .u32 ((S.d : Nat) : Int), .int .u32 y, .int .u32 ((S.f : Nat) : Int), .int .u32 ((S.g : Nat) : Int), .int .u32 ((S.h : Nat) : Int)] t)) w.heap.size S := by
  subst hx hy
  refine ⟨?_, ?_, ?_, ?_, ?_, ?_, ?_, ?_⟩ <;> (rw [cell_of_row _ _ _ _ _ _ (heap_alloc_new w _)]; rfl)
def OhRel (wq : World) (gh : Nat) (H N : List Nat) (u : Value) (wr : World) : Prop := ∃ i : Nat, u = .int .i64 (i : Int) ∧ i ≤ 8 ∧ wr.heap[gh]? = some (.cells (u32s (zipTo H N i)).toArray 24 (0, 0)) ∧ Hs wq wr gh
def OgRel (wl : World) (X H : List Nat) (v u : Value) (wr : World) : Prop :=
  ∃ i g cp : Nat, u = .int .i64 (i : Int) ∧ i ≤ 64 ∧ v = .slice (some ⟨g, 0, none⟩) 8 cp ∧ wl.heap.size ≤ g ∧ g < wr.heap.size ∧ R8 wr g (rnds X K0 (S8.of H) i) ∧ Below wl.heap.size wl wr
theorem K0_lt : ∀ x ∈ K0, x < 4294967296 := by decide
theorem S8.of_ok {l : List Nat} (h : ∀ x ∈ l, x < 4294967296) : (S8.of l).ok := ⟨getD_lt h 0, getD_lt h 1, getD_lt h 2, getD_lt h 3, getD_lt h 4, getD_lt h 5, getD_lt h 6, getD_lt h 7⟩
/-- The loop whose first region has this number. -/
def headReg : Code → Nat
  | .region i _ _ => i
  | .seq a _ => headReg a
  | .block _ c => headReg c
  | _ => 0
def findLoop (k : Nat) : Code → Option Code
  | .loop c => bif headReg c == k then some (.loop c) else findLoop k c
  | .seq a b => match findLoop k a with | some c => some c | none => findLoop k b
  | .cond _ a b => match findLoop k a with | some c => some c | none => findLoop k b
  | .block _ c => findLoop k c
  | .scope c => findLoop k c
  | _ => none
def loopOf (k : Nat) (b : Option Code) : Code := match b with | some c => (match findLoop k c with | some d => d | none => .skip) | none => .skip
end Go.Proofs.YtejbookaflnpeaaDoor
