/- What a Reader's call Sum leaves. -/
import Derived.Test.YtcjnfmlpjolfpaaRt
import Derived.Laws.CopyOwn
import Derived.Deep.MidRow
import Derived.Deep.RegionLaw
namespace Go.Proofs.Ytcjnfmlpjolfpaa
open Go Go.RowKit
set_option linter.unusedVariables false

/-- A whole array stored at the head of a block of its size. -/
theorem wpList_store_whole {P : Program} {ops : Array Oper} {rest : List Oper} {op : Oper} {a : Act} {w : World} {Q : Exit → Act → World → Prop} (hgd : op.guard = none) (ty : TypeId) (x y : Operand) (ho : op.op = .store ty x y)
    (g : Nat) (t : TypeId) (old cells : Array Value) (hx : a.eval x = .pointer (some ⟨g, 0, none⟩)) (hy : a.eval y = .agg cells) (hg : w.heap[g]? = some (.cells old t (0, 0)))
    (hi : (P.info? ty).map (·.size) = some cells.size) (hs : old.size = cells.size) (h1 : cells.all (·.oneCell') = true)
    (h : wpList P ops Q rest (a.put op.dst undef) (w.setRow g cells)) : wpList P ops Q (op :: rest) a w :=
  wpList_plain hgd fun _ hK => by
    unfold Oper.wp execOp
    simp only [ho, hx, hy, Instr.storeAt, Instr.sureAddr, Sem.run_bind, Sem.run_pure, Result.andThen_ok, run_storeVar_row w g t ty old cells hg hi hs h1]
    exact hK _ _ h
theorem Fr.setRow {a w : World} {b : Nat} {r : Option Nat} (h : Fr a w b r) {g : Nat} (hg : a.heap.size ≤ g) (cs : Array Value) : Fr a (w.setRow g cs) b r :=
  ⟨h.os, h.tape, h.output, by simpa using h.size, fun k hk hb hn => (setRow_other w g k cs (by omega)).trans (h.block k hk hb hn)⟩
theorem Fr.later {a w w' : World} {b : Nat} {r : Option Nat} {B : Nat} (h : Fr a w b r) (hB : Below B w w') (hs : a.heap.size ≤ B) : Fr a w' b r :=
  ⟨hB.os.trans h.os, hB.tape.trans h.tape, hB.output.trans h.output, Nat.le_trans h.size hB.size, fun k hk hb hn => (hB.block k (by omega)).trans (h.block k hk hb hn)⟩

/-- 32 noughts. -/
def Z32 : List Value := bvs (List.replicate 32 0)
theorem Z32_eq : Z32.toArray = #[.int .u8 0, .int .u8 0, .int .u8 0, .int .u8 0, .int .u8 0, .int .u8 0, .int .u8 0, .int .u8 0, .int .u8 0, .int .u8 0, .int .u8 0, .int .u8 0, .int .u8 0, .int .u8 0, .int .u8 0, .int .u8 0, .int .u8 0, .int .u8 0, .int .u8 0, .int .u8 0, .int .u8 0, .int .u8 0, .int .u8 0, .int .u8 0, .int .u8 0, .int .u8 0, .int .u8 0, .int .u8 0, .int .u8 0, .int .u8 0, .int .u8 0, .int .u8 0] := by kernel_rfl
theorem Try.sum32 : (Try.prog.info? 29).map (·.size) = some 32 := by kernel_rfl

/-- The next sum. -/
def sm (Y : List UInt8) : List UInt8 := if Y = [] then List.replicate 32 0 else Y
theorem sm_length {Y : List UInt8} (h : Y = [] ∨ Y.length = 32) : (sm Y).length = 32 := by
  unfold sm
  split
  · simp
  · rcases h with h | h
    · exact absurd h (by assumption)
    · exact h
theorem sm_splice {Y : List UInt8} (h : Y = [] ∨ Y.length = 32) : splice Z32 0 (bvs Y) = bvs (sm Y) := by
  unfold sm splice
  split
  · rename_i h0
    subst h0
    simp [bvs, Z32]
  · rcases h with h | h
    · exact absurd h (by assumption)
    · simp [bvs, Z32, h]
theorem nx32 (xs : List UInt8) (k : Nat) (err : Int) : (nx xs k err 32).1 = [] ∨ (nx xs k err 32).1.length = 32 := by
  unfold nx
  split
  · exact Or.inl rfl
  · split
    · exact Or.inr (by simp; omega)
    · exact Or.inl rfl

theorem pos_of {w : World} {ao : Option Addr} {Y : List UInt8} {g : Nat} (hno : ao = none → Y = []) (hs : ∀ a, ao = some a → ∀ j u, (bvs Y)[j]? = some u → w.cell? (a.add j) = some u) :
    0 < (bvs Y).length → (some ⟨g, 0, none⟩ : Option Addr) = some ⟨g, 0, none⟩ ∧ ∃ ad, ao = some ad ∧ ∀ j v, (bvs Y)[j]? = some v → w.cell? (ad.add j) = some v := by
  intro h
  refine ⟨rfl, ?_⟩
  cases ao with
  | none => rw [hno rfl] at h; simp [bvs] at h
  | some ad => exact ⟨ad, rfl, hs ad rfl⟩
def SumPost (w : World) (b : Nat) (r : Option Nat) (xs : List UInt8) (X : List UInt8 × Nat × Int) (e : Ending) (w' : World) : Prop :=
  e = .returned (.agg (bvs (sm X.1)).toArray) ∧ Rd w' b r xs X.2.1 X.2.2 ∧ Fr w w' b none

set_option maxRecDepth 100000 in
set_option maxHeartbeats 1000000 in
theorem rsum_any {w : World} {b : Nat} {r : Option Nat} {xs : List UInt8} {k : Nat} {err : Int} (h : Rd w b r xs k err) (hsz : xs.length ≤ 140737488355328) :
    Calls Try.prog 24 #[.pointer (some ⟨b, 0, none⟩)] w (SumPost w b r xs (nx xs k err 32)) := by
  obtain ⟨w2, hw2⟩ : ∃ w2, w2 = (w.alloc (.cells #[.int .u8 0, .int .u8 0, .int .u8 0, .int .u8 0, .int .u8 0, .int .u8 0, .int .u8 0, .int .u8 0, .int .u8 0, .int .u8 0, .int .u8 0, .int .u8 0, .int .u8 0, .int .u8 0, .int .u8 0, .int .u8 0, .int .u8 0, .int .u8 0, .int .u8 0, .int .u8 0, .int .u8 0, .int .u8 0, .int .u8 0, .int .u8 0, .int .u8 0, .int .u8 0, .int .u8 0, .int .u8 0, .int .u8 0, .int .u8 0, .int .u8 0, .int .u8 0] 29)).alloc (.cells #[.int .u8 0, .int .u8 0, .int .u8 0, .int .u8 0, .int .u8 0, .int .u8 0, .int .u8 0, .int .u8 0, .int .u8 0, .int .u8 0, .int .u8 0, .int .u8 0, .int .u8 0, .int .u8 0, .int .u8 0, .int .u8 0, .int .u8 0, .int .u8 0, .int .u8 0, .int .u8 0, .int .u8 0, .int .u8 0, .int .u8 0, .int .u8 0, .int .u8 0, .int .u8 0, .int .u8 0, .int .u8 0, .int .u8 0, .int .u8 0, .int .u8 0, .int .u8 0] 29) := ⟨_, rfl⟩
  have b0 : w2.heap[w.heap.size]? = some (.cells Z32.toArray 29 (0, 0)) := by
    rw [hw2, Below.heap_alloc _ _ _ (by simp), Z32_eq]; exact heap_alloc_new w _
  have b1 : w2.heap[w.heap.size + 1]? = some (.cells Z32.toArray 29 (0, 0)) := by
    rw [hw2, Z32_eq]
    have := heap_alloc_new (w.alloc (.cells #[.int .u8 0, .int .u8 0, .int .u8 0, .int .u8 0, .int .u8 0, .int .u8 0, .int .u8 0, .int .u8 0, .int .u8 0, .int .u8 0, .int .u8 0, .int .u8 0, .int .u8 0, .int .u8 0, .int .u8 0, .int .u8 0, .int .u8 0, .int .u8 0, .int .u8 0, .int .u8 0, .int .u8 0, .int .u8 0, .int .u8 0, .int .u8 0, .int .u8 0, .int .u8 0, .int .u8 0, .int .u8 0, .int .u8 0, .int .u8 0, .int .u8 0, .int .u8 0] 29)) (.cells #[.int .u8 0, .int .u8 0, .int .u8 0, .int .u8 0, .int .u8 0, .int .u8 0, .int .u8 0, .int .u8 0, .int .u8 0, .int .u8 0, .int .u8 0, .int .u8 0, .int .u8 0, .int .u8 0, .int .u8 0, .int .u8 0, .int .u8 0, .int .u8 0, .int .u8 0, .int .u8 0, .int .u8 0, .int .u8 0, .int .u8 0, .int .u8 0, .int .u8 0, .int .u8 0, .int .u8 0, .int .u8 0, .int .u8 0, .int .u8 0, .int .u8 0, .int .u8 0] 29)
    simpa using this
  have hs2 : w2.heap.size = w.heap.size + 1 + 1 := by rw [hw2]; simp
  have hR2 : Rd w2 b r xs k err := by rw [hw2]; exact (h.alloc _).alloc _
  have hF2 : Fr w w2 b none := by rw [hw2]; exact ((Fr.refl w b none).alloc _).alloc _
  have hlt := h.lt
  have hY := nx32 xs k err
  have N := fun W (hW : Rd W b r xs k err) => next_any hW 32 (by decide) hsz
  generalize nx xs k err 32 = X at hY N ⊢
  obtain ⟨Y, k1, e1⟩ := X
  dsimp only at hY N
  have hlen := sm_length hY
  have hsp := sm_splice hY
  have HW := Lib.hid hw2
  have HN := Lib.hid N
  have H0 := Lib.hid b0
  have H1 := Lib.hid b1
  have HS := Lib.hid hs2
  have HL := Lib.hid hlen
  have HP := Lib.hid hsp
  have hY32 : Y.length ≤ 32 := by rcases hY with h | h <;> simp [h]
  have hY0 := Lib.hid hY
  have hcn := Lib.hid (show (bvs Y).length = Nat.min Y.length 32 by rw [bvs_length]; exact (Nat.min_eq_left hY32).symm)
  have hfit := Lib.hid (show 0 + (bvs Y).length ≤ Z32.length by rw [bvs_length, show Z32.length = 32 from by simp [Z32, bvs]]; omega)
  clear hw2 N b0 b1 hs2 hlen hsp hY
  go_enter Try.func24, Try.ntmps24
  go_wp2
  rw [← HW.out]
  go_region_law (first
    | (refine step_copy_splice rfl (.tmp 4) (.tmp 6) 24 24 rfl 5 Try.underlying24 (by kernel_rfl) (some ⟨w.heap.size + 1, 0, none⟩) ao 32 32 Y.length c (by simp [Act.eval]) (by simp [Act.eval]) (w.heap.size + 1) 0 Z32 29 (H13.out) (bvs Y) hcn.out (hpos.out) hfit.out (bvs_one Y) (w.heap.size + 1) w3 (Below.refl _ _) (Nat.le_refl _) ?_; intro w4 hg4 hb4)
    | (go_simp; go_at_call 35; refine (HN.out _ hR2.drew).mono ?_; rintro e w3 ⟨v, rfl, ⟨ao, c, rfl, hno, hs⟩, hR3, hF3⟩; have H13 := Lib.hid ((hF3.block (w.heap.size + 1) (by have := HS.out; simp; omega) (by omega) (by simp)).trans H1.out); have H03 := Lib.hid ((hF3.block w.heap.size (by have := HS.out; simp; omega) (by omega) (by simp)).trans H0.out); have hpos := Lib.hid (pos_of (g := w.heap.size + 1) hno hs); clear hno hs))
  have g4 := hg4.out
  rw [HP.out] at g4
  have z4 : w4.heap[w.heap.size]? = some (.cells Z32.toArray 29 (0, 0)) := (hb4.block _ (by omega)).trans H03.out
  have G4 := Lib.hid g4
  have Z4 := Lib.hid z4
  have sz := Lib.hid (show (Try.prog.info? 29).map (·.size) = some (bvs (sm Y)).toArray.size by rw [Try.sum32]; simp [bvs_length, HL.out])
  have so := Lib.hid (show Z32.toArray.size = (bvs (sm Y)).toArray.size by simp [bvs_length, HL.out, Z32])
  have s1 := Lib.hid (show (bvs (sm Y)).toArray.all (·.oneCell') = true from all_oneCell_toArray (bvs_one _))
  clear hg4 g4 z4
  go_wp2_with (first
    | (refine wpList_load_row rfl 29 (.tmp 3) rfl (w.heap.size + 1) rfl 29 _ (0, 0) _ G4.out Try.underlying29 rfl sz.out ?_)
    | (refine wpList_store_whole rfl 29 (.tmp 2) (.tmp 8) rfl w.heap.size 29 Z32.toArray (bvs (sm Y)).toArray rfl rfl Z4.out sz.out so.out s1.out ?_))
  have r4 := setRow_heap w4 w.heap.size _ (bvs (sm Y)).toArray 29 (0, 0) Z4.out
  refine bodyPost_ret (results_cell_row rfl _ _ w.heap.size 29 (bvs (sm Y)).toArray (0, 0) _ rfl r4 Try.underlying29 rfl sz.out) rfl ?_
  have same : ∀ g, g < w.heap.size → (w4.setRow w.heap.size (bvs (sm Y)).toArray).heap[g]? = w3.heap[g]? := fun g hg =>
    (setRow_other w4 w.heap.size g _ (by omega)).trans (hb4.block g (by omega))
  exact ⟨rfl, hR3.keep (same b hlt) (fun g hg => same g (h.rlt g hg)), ((hF2.drew.trans (Or.inl rfl) hF3).later hb4 (by omega)).setRow (Nat.le_refl _) _⟩
end Go.Proofs.Ytcjnfmlpjolfpaa
