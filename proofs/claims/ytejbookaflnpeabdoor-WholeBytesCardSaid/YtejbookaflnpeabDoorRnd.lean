/- The 64 rounds of a block. -/
import Derived.Test.YtejbookaflnpeabDoorRot
import Derived.Laws.Rows
import Derived.Laws.CopyOwn
import Derived.Deep.MidRow
namespace Go.Proofs.YtejbookaflnpeabDoor
open Go Go.RowKit
set_option linter.unusedVariables false

/-- A whole array stored at the head of a block of its size. -/
theorem wpList_store_all {P : Program} {ops : Array Oper} {rest : List Oper} {op : Oper} {a : Act} {w : World} {Q : Exit → Act → World → Prop} (hgd : op.guard = none) (ty : TypeId) (x y : Operand) (ho : op.op = .store ty x y)
    (g : Nat) (t : TypeId) (old cells : Array Value) (hx : a.eval x = .pointer (some ⟨g, 0, none⟩)) (hy : a.eval y = .agg cells) (hg : w.heap[g]? = some (.cells old t (0, 0)))
    (hi : (P.info? ty).map (·.size) = some cells.size) (hs : old.size = cells.size) (h1 : cells.all (·.oneCell') = true)
    (h : wpList P ops Q rest (a.put op.dst undef) (w.setRow g cells)) : wpList P ops Q (op :: rest) a w :=
  wpList_plain hgd fun _ hK => by
    unfold Oper.wp execOp
    simp only [ho, hx, hy, Instr.storeAt, Instr.sureAddr, Sem.run_bind, Sem.run_pure, Result.andThen_ok, run_storeVar_row w g t ty old cells hg hi hs h1]
    exact hK _ _ h
theorem below_drewN {B : Nat} {a w : World} (h : Below B a w) (n : Nat) : Below B a (w.drewN n) := ⟨h.os, h.tape, h.output, h.size, h.block⟩

def u32s (l : List Nat) : List Value := l.map fun (n : Nat) => Value.int .u32 (n : Int)
theorem u32s_get (l : List Nat) (i : Nat) (h : i < l.length) : (u32s l)[i]? = some (.int .u32 ((l.getD i 0 : Nat) : Int)) := by simp [u32s, List.getD, h]

theorem u32s_one (l : List Nat) : ∀ u ∈ u32s l, u.oneCell' = true := by
  intro u hu
  obtain ⟨_, _, rfl⟩ := List.mem_map.1 hu
  rfl
/-- The eight numbers. -/
structure S8 where
  a : Nat
  b : Nat
  c : Nat
  d : Nat
  e : Nat
  f : Nat
  g : Nat
  h : Nat
def ch (e f g : Nat) : Nat := (e &&& f) ^^^ ((4294967295 - e) &&& g)
def maj (a b c : Nat) : Nat := (a &&& b) ^^^ (a &&& c) ^^^ (b &&& c)
def tt (s : S8) (x k : Nat) : Nat := (s.h + Sig1 s.e + ch s.e s.f s.g + x + k) % 4294967296
/-- One round. -/
def rnd (x k : Nat) (s : S8) : S8 := ⟨(tt s x k + Sig0 s.a + maj s.a s.b s.c) % 4294967296, s.a, s.b, s.c, (s.d + tt s x k) % 4294967296, s.e, s.f, s.g⟩
/-- So many rounds. -/
def rnds (X K : List Nat) (s : S8) : Nat → S8
  | 0 => s
  | i + 1 => rnd (X.getD i 0) (K.getD i 0) (rnds X K s i)
def S8.ok (s : S8) : Prop := s.a < 4294967296 ∧ s.b < 4294967296 ∧ s.c < 4294967296 ∧ s.d < 4294967296 ∧ s.e < 4294967296 ∧ s.f < 4294967296 ∧ s.g < 4294967296 ∧ s.h < 4294967296
theorem rnd_ok {x k : Nat} {s : S8} (h : s.ok) : (rnd x k s).ok := by
  obtain ⟨h1, h2, h3, h4, h5, h6, h7, h8⟩ := h
  exact ⟨Nat.mod_lt _ (by decide), h1, h2, h3, Nat.mod_lt _ (by decide), h5, h6, h7⟩
theorem rnds_ok {X K : List Nat} {s : S8} (h : s.ok) : ∀ i, (rnds X K s i).ok
  | 0 => h
  | i + 1 => rnd_ok (rnds_ok h i)
def S8.vals (s : S8) : Array Value := #[.int .u32 (s.a : Int), .int .u32 (s.b : Int), .int .u32 (s.c : Int), .int .u32 (s.d : Int), .int .u32 (s.e : Int), .int .u32 (s.f : Int), .int .u32 (s.g : Int), .int .u32 (s.h : Int)]

theorem chI {e f g : Nat} (he : e < 4294967296) (hf : f < 4294967296) (hg : g < 4294967296) :
    bits BinOp.xor IntKind.u32 (bits BinOp.and IntKind.u32 (e : Int) (f : Int)) (bits BinOp.and IntKind.u32 (bits BinOp.xor IntKind.u32 IntKind.u32.max (e : Int)) (g : Int)) = (ch e f g : Int) := by
  have hn : bits BinOp.xor IntKind.u32 IntKind.u32.max (e : Int) = ((4294967295 - e : Nat) : Int) := by
    show IntKind.u32.wrap ((BitVec.ofInt 32 IntKind.u32.max ^^^ BitVec.ofInt 32 (e : Int)).toNat : Int) = _
    have h1 : BitVec.ofInt 32 IntKind.u32.max = BitVec.allOnes 32 := by decide
    rw [h1, BitVec.allOnes_xor, BitVec.toNat_not, ofInt_u32 e he, IntKind.wrap_u32]
    omega
  rw [hn, u32_and_nat _ _ he hf, u32_and_nat _ _ (by omega) hg, u32_xor_nat _ _ (and_lt he) (and_lt (by omega))]
  rfl
theorem majI {a b c : Nat} (ha : a < 4294967296) (hb : b < 4294967296) (hc : c < 4294967296) :
    bits BinOp.xor IntKind.u32 (bits BinOp.xor IntKind.u32 (bits BinOp.and IntKind.u32 (a : Int) (b : Int)) (bits BinOp.and IntKind.u32 (a : Int) (c : Int))) (bits BinOp.and IntKind.u32 (b : Int) (c : Int)) = (maj a b c : Int) := by
  rw [u32_and_nat _ _ ha hb, u32_and_nat _ _ ha hc, u32_and_nat _ _ hb hc, u32_xor_nat _ _ (and_lt ha) (and_lt ha), u32_xor_nat _ _ (xor_lt (and_lt ha) (and_lt ha)) (and_lt hb)]
  rfl
theorem val_u32 {a b : Int} (h : a = b) : Value.int .u32 a = Value.int .u32 b := by rw [h]

def RndRel (w : World) (X K : List Nat) (s : S8) (va vb vc vd ve vf vg vh u : Value) (wr : World) : Prop :=
  ∃ (i : Nat) (m : Nat), u = .int .i64 (i : Int) ∧ i ≤ 64 ∧ wr = w.drewN m ∧ va = .int .u32 ((rnds X K s i).a : Int) ∧ vb = .int .u32 ((rnds X K s i).b : Int) ∧ vc = .int .u32 ((rnds X K s i).c : Int) ∧ vd = .int .u32 ((rnds X K s i).d : Int) ∧
    ve = .int .u32 ((rnds X K s i).e : Int) ∧ vf = .int .u32 ((rnds X K s i).f : Int) ∧ vg = .int .u32 ((rnds X K s i).g : Int) ∧ vh = .int .u32 ((rnds X K s i).h : Int)

def RndPost (w : World) (S : S8) (e : Ending) (w' : World) : Prop := e = .returned (.agg S.vals) ∧ Below w.heap.size w w'
theorem big_1q (x : Nat) (w : World) (m : Nat) (hx : x < 4294967296) : Calls Tryd.prog 66 #[.int .u32 (x : Int), .int .i64 6, .int .i64 11, .int .i64 25] (w.drewN m) fun e w' => e = .returned (.int .u32 (Sig1 x : Int)) ∧ ∃ n, w' = w.drewN n :=
  (big_1 x _ hx).mono fun _ _ h => ⟨h.1, m, h.2.symm⟩

set_option maxRecDepth 100000 in
set_option maxHeartbeats 2000000 in
theorem rounds_any (w : World) (s : S8) (hs : s.ok) (X K : List Nat) (hX : X.length = 64) (hK : K.length = 64) (hkc : ∀ i, i < 64 → w.cell? ⟨3, i, none⟩ = some (.int .u32 ((K.getD i 0 : Nat) : Int))) :
    Calls Tryd.prog 56 #[.agg s.vals, .agg (u32s X).toArray] w (RndPost w (rnds X K s 64)) := by
  have hok := fun i => rnds_ok (X := X) (K := K) hs i
  obtain ⟨w3, hw3⟩ : ∃ w3, w3 = ((w.alloc (.cells s.vals 50)).alloc (.cells (u32s X).toArray 115)).alloc (.cells #[.int .u32 0, .int .u32 0, .int .u32 0, .int .u32 0, .int .u32 0, .int .u32 0, .int .u32 0, .int .u32 0] 50) := ⟨_, rfl⟩
  have hgk : 3 < w.heap.size := World.block_lt_of_cell? w _ (hkc 0 (by decide))
  have hB : Below w.heap.size w w3 := by
    rw [hw3]
    exact (((Below.refl _ _).alloc (Nat.le_refl _) _).alloc (by simp) _).alloc (by simp; omega) _
  have kc : ∀ i, i < 64 → w3.cell? ⟨3, i, none⟩ = some (.int .u32 ((K.getD i 0 : Nat) : Int)) := fun i hi => (hB.cell (p := ⟨3, i, none⟩) hgk).trans (hkc i hi)
  have xc : ∀ i, i < 64 → w3.cell? ⟨w.heap.size + 1, i, none⟩ = some (.int .u32 ((X.getD i 0 : Nat) : Int)) := by
    intro i hi
    rw [hw3, World.cell?_alloc_past _ _ _ (by simp)]
    have hh := heap_alloc_new (w.alloc (.cells s.vals 50)) (.cells (u32s X).toArray 115)
    rw [World.size_alloc] at hh
    rw [cell_of_row _ _ i _ _ _ hh]
    simpa using u32s_get X i (by omega)
  have zc : w3.heap[w.heap.size + 1 + 1]? = some (.cells #[.int .u32 0, .int .u32 0, .int .u32 0, .int .u32 0, .int .u32 0, .int .u32 0, .int .u32 0, .int .u32 0] 50 (0, 0)) := by
    have hh := heap_alloc_new ((w.alloc (.cells s.vals 50)).alloc (.cells (u32s X).toArray 115)) (.cells #[.int .u32 0, .int .u32 0, .int .u32 0, .int .u32 0, .int .u32 0, .int .u32 0, .int .u32 0, .int .u32 0] 50)
    rw [hw3]
    simpa using hh
  have R0 : rnds X K s 0 = s := rfl
  obtain ⟨S64, h64s⟩ : ∃ S, S = rnds X K s 64 := ⟨_, rfl⟩
  rw [← h64s]
  have HS := Lib.hid h64s
  clear h64s
  have HW := Lib.hid hw3
  have HK := Lib.hid kc
  have HX := Lib.hid xc
  have HZ := Lib.hid zc
  have HO := Lib.hid hok
  clear hw3 kc xc zc hok hkc hX hK
  obtain ⟨a, b, c, d, e0, f, g, h⟩ := s
  unfold S8.vals at HW ⊢
  dsimp only at HW ⊢
  go_enter Tryd.func56, Tryd.ntmps56
  go_wp2
  go_quiet (fail)
  go_wp2
  rw [← HW.out]
  go_loopw [5, 6, 7, 8, 9, 10, 11, 12, 33] (fun va vb vc vd ve vf vg vh u wr => RndRel w3 X K ⟨a, b, c, d, e0, f, g, h⟩ va vb vc vd ve vf vg vh u wr) (fun _ _ _ _ _ _ _ _ u _ => 64 - (intOf u).toNat)
  case atStart => exact ⟨0, _, rfl, Nat.zero_le _, rfl, rfl, rfl, rfl, rfl, rfl, rfl, rfl, rfl⟩
  case round =>
    obtain ⟨i, m, rfl, hi, hwr, rfl, rfl, rfl, rfl, rfl, rfl, rfl, rfl⟩ := hrel
    have o := HO.out i
    by_cases h64 : i < 64
    · have hk1 : wr.cell? ⟨3, i, none⟩ = some (.int .u32 ((K.getD i 0 : Nat) : Int)) := by rw [hwr]; simpa using HK.out i h64
      have hx1 : wr.cell? ⟨w.heap.size + 1, i, none⟩ = some (.int .u32 ((X.getD i 0 : Nat) : Int)) := by rw [hwr]; simpa using HX.out i h64
      have HR := Lib.hid hwr
      clear hwr
      have hn : rnds X K ⟨a, b, c, d, e0, f, g, h⟩ (i + 1) = rnd (X.getD i 0) (K.getD i 0) (rnds X K ⟨a, b, c, d, e0, f, g, h⟩ i) := rfl
      have HN := Lib.hid hn
      clear hn R0
      generalize rnds X K ⟨a, b, c, d, e0, f, g, h⟩ i = S at *
      generalize X.getD i 0 = x at *
      generalize K.getD i 0 = k at *
      obtain ⟨a1, b1, c1, d1, e1, f1, g1, h1⟩ := S
      obtain ⟨o1, o2, o3, o4, o5, o6, o7, o8⟩ := o
      dsimp only at *
      go_wp2
      go_quiet ((go_at_call 66; exact big_1q e1 wr _ o5))
      go_wp2_with (go_at_call 66; refine (big_0 a1 _ o1).mono ?_; rintro e w' ⟨rfl, rfl⟩)
      go_roundw
      case rel =>
        rw [chI o5 o6 o7, majI o1 o2 o3]
        refine ⟨i + 1, _, by go_num, by omega, (by rw [HR.out, World.drewN_drewN]), ?_, ?_, ?_, ?_, ?_, ?_, ?_, ?_⟩
        all_goals (rw [HN.out]; first | rfl | (refine val_u32 ?_; simp only [rnd, tt]; omega))
      case measure => simp [intOf]; omega
    · obtain rfl : i = 64 := by omega
      have HR := Lib.hid hwr
      clear hwr R0
      rw [← HS.out]
      obtain ⟨a1, b1, c1, d1, e1, f1, g1, h1⟩ := S64
      dsimp only
      have zr : wr.heap[w.heap.size + 1 + 1]? = some (.cells #[.int .u32 0, .int .u32 0, .int .u32 0, .int .u32 0, .int .u32 0, .int .u32 0, .int .u32 0, .int .u32 0] 50 (0, 0)) := by rw [HR.out]; exact HZ.out
      have hBr : Below w.heap.size w wr := by rw [HR.out]; exact below_drewN hB m
      have ZR := Lib.hid zr
      clear zr
      go_wp2_with (refine wpList_store_all rfl 50 (.tmp 4) (.tmp 93) rfl (w.heap.size + 1 + 1) 50 _ #[.int .u32 (a1 : Int), .int .u32 (b1 : Int), .int .u32 (c1 : Int), .int .u32 (d1 : Int), .int .u32 (e1 : Int), .int .u32 (f1 : Int), .int .u32 (g1 : Int), .int .u32 (h1 : Int)] rfl rfl ZR.out (by kernel_rfl) rfl (all_oneCell_toArray (u32s_one [a1, b1, c1, d1, e1, f1, g1, h1])) ?_)
      refine bodyPost_ret (results_cell_row rfl _ _ (w.heap.size + 1 + 1) 50 _ (0, 0) _ rfl (setRow_heap wr _ _ _ _ (0, 0) ZR.out) Tryd.underlying50 rfl (by kernel_rfl)) rfl ?_
      exact ⟨rfl, below_setRow hBr (by omega) _⟩
end Go.Proofs.YtejbookaflnpeabDoor
