/- What stands behind the last byte. -/
import Derived.Test.YtejbookaflnpeabDoorHa
import Derived.Deep.OwnRows
import Derived.Laws.OwnMore
namespace Go.Proofs.YtejbookaflnpeabDoor
open Go Go.RowKit
set_option linter.unusedVariables false

/-- How many bits there were, its i'th byte from the end. -/
def flb (n i : Nat) : UInt8 := UInt8.ofNat (8 * n / 2 ^ (8 * i))
def FL (n t : Nat) : Nat → List UInt8
  | 0 => (List.replicate (t + 8) 0).set 0 128
  | i + 1 => (FL n t i).set (t + 7 - i) (flb n i)
theorem FL_length (n t : Nat) : ∀ i, (FL n t i).length = t + 8
  | 0 => by simp [FL]
  | i + 1 => by simp [FL, FL_length n t i]
theorem bvs_set (l : List UInt8) (i : Nat) (x : UInt8) : (bvs l).set i (bv x) = bvs (l.set i x) := by simp [bvs, List.map_set]
theorem bvs_get (l : List UInt8) (i : Nat) (h : i < l.length) : (bvs l)[i]? = some (.int .u8 ((l.getD i 0).toNat : Int)) := by simp [bvs, bv, List.getD, h]
def FlRel (w : World) (n t : Nat) (u : Value) (wr : World) : Prop :=
  ∃ i : Nat, u = .int .i64 (i : Int) ∧ i ≤ 8 ∧ wr.heap[w.heap.size]? = some (.cells (bvs (FL n t i)).toArray 5 (0, 0)) ∧ Below w.heap.size w wr
set_option maxRecDepth 100000 in
set_option maxHeartbeats 2000000 in
theorem filling_any {w : World} {b : Nat} {G : List Nat} {B : List UInt8} {n : Nat} (h : HashAt w b G B n) (hn : n < 1152921504606846976) :
    Calls Tryd.prog 34 #[.pointer (some ⟨b, 0, none⟩)] w fun e w' => ∃ t, t = 64 - (n + 8) % 64 ∧ e = .returned (.slice (some ⟨w.heap.size, 0, none⟩) (t + 8) (t + 8)) ∧ w'.heap[w.heap.size]? = some (.cells (bvs (FL n t 8)).toArray 5 (0, 0)) ∧ Below w.heap.size w w' := by
  have hb := h.lt
  have cnt := h.count
  have HH := Lib.hid h
  obtain ⟨q, hq⟩ : ∃ q, q = (n + 8) % 64 := ⟨_, rfl⟩
  have hq64 : q < 64 := by omega
  have hqI : ((n : Int) + 8) % 64 = (q : Int) := by omega
  have HQ := Lib.hid hq
  clear h hq
  obtain ⟨t, ht⟩ : ∃ t, t = 64 - q := ⟨_, rfl⟩
  have htI : 64 - (q : Int) = (t : Int) := by omega
  have t0 : 0 < t := by omega
  have t64 : t ≤ 64 := by omega
  have HTQ := Lib.hid ht
  clear ht
  have p1 : (0 : Int) ≤ (t : Int) := by omega
  have mk := Lib.hid (fun w' => run_make_row' (P := Tryd.prog) 41 5 (.int .u8 0) 1 Tryd.underlying41 (by kernel_rfl) rfl .u64 .u64 (t + 8) (by omega) (by omega) w')
  go_enter Tryd.func34, Tryd.ntmps34
  have hnew : (w.alloc (.cells (madeCells #[.int .u8 0] (t + 8)) 5)).heap[w.heap.size]? = some (.cells (bvs (List.replicate (t + 8) 0)).toArray 5 (0, 0)) := by
    rw [heap_alloc_new]
    congr 2
    apply Array.toList_inj.1
    rw [toList_madeCells_one]
    simp [bvs, bv]
  have z0 : (w.alloc (.cells (madeCells #[.int .u8 0] (t + 8)) 5)).cell? ⟨w.heap.size, 0, none⟩ = some (.int .u8 0) := by
    rw [cell_of_row _ _ 0 _ _ _ hnew]
    simp [bvs, bv]
  have f0 : (w.alloc (.cells (madeCells #[.int .u8 0] (t + 8)) 5)).frozen? ⟨w.heap.size, 0, none⟩ = false := frozen_of_row _ _ 0 _ _ hnew
  have NW := Lib.hid hnew
  clear hnew
  have mk' := mk.out
  simp only [Int.natCast_add, Int.cast_ofNat_Int] at mk'
  go_wp2
  have st := heap_setCell_same _ w.heap.size 0 _ _ (.int .u8 128) NW.out
  go_loopw [18] (fun u wr => FlRel w n t u wr) (fun u _ => 8 - (intOf u).toNat)
  case atStart =>
    refine ⟨0, rfl, Nat.zero_le _, ?_, (Below.refl _ _).alloc (Nat.le_refl _) _⟩
    rw [heap_alloc_new]
    congr 2
    apply Array.toList_inj.1
    rw [Array.toList_setIfInBounds, toList_madeCells_one]
    simp [FL, bvs, bv]
  case round =>
    obtain ⟨i, rfl, hi, r1, hBr⟩ := hrel
    by_cases h8 : i < 8
    · have cn : wr.cell? ⟨b, 72, none⟩ = some (.int .u64 (n : Int)) := (hBr.cell (p := ⟨b, 72, none⟩) hb).trans cnt
      have hl := FL_length n t i
      have gc : wr.cell? ⟨w.heap.size, t + 7 - i, none⟩ = some (.int .u8 (((FL n t i).getD (t + 7 - i) 0).toNat : Int)) := by
        rw [cell_of_row wr _ _ _ _ _ r1]
        simpa using bvs_get (FL n t i) (t + 7 - i) (by omega)
      have gf : wr.frozen? ⟨w.heap.size, t + 7 - i, none⟩ = false := frozen_of_row wr _ _ _ _ r1
      have R1 := Lib.hid r1
      clear r1 hl st mk' mk z0 f0 NW cnt htI hqI
      obtain ⟨j, hj⟩ : ∃ j, j = t + 7 - i := ⟨_, rfl⟩
      have hjI : (t : Int) + 8 - 1 - (i : Int) = (j : Int) := by omega
      have hjI' : (t : Int) + 7 - (i : Int) = (j : Int) := by omega
      have j1 : (j : Int) < (t : Int) + 8 := by omega
      have j2 : j < t + 8 := by omega
      have n1 : n * 8 < 18446744073709551616 := by omega
      have n2 : IntKind.u64.wrap ((n : Int) * 8) = (n : Int) * 8 := by rw [IntKind.wrap_u64]; omega
      have i1 : (0 : Int) ≤ 8 * (i : Int) := by omega
      have i2 : (8 * (i : Int)).toNat = 8 * i := by omega
      rw [← hj] at gc gf
      have HJ := Lib.hid hj
      clear hj
      go_wp2_with fail
      have hv : (n : Int) * 8 / 2 ^ (8 * i) % 256 = ((flb n i).toNat : Int) := by
        have : (flb n i).toNat = n * 8 / 2 ^ (8 * i) % 256 := by unfold flb; rw [Nat.mul_comm n 8]; simp
        rw [this]
        simp
      refine ⟨⟨i + 1, by go_num, by omega, ?_, hBr.setCell (Nat.le_refl _) _⟩, by simp [intOf]; omega⟩
      rw [hv, heap_setCell_same wr _ j _ _ _ R1.out]
      have e := bvs_set (FL n t i) j (flb n i)
      rw [HJ.out] at e ⊢
      show _ = some (Obj.cells (bvs ((FL n t i).set (t + 7 - i) (flb n i))).toArray 5 (0, 0))
      rw [← e]
      simp [bv]
    · obtain rfl : i = 8 := by omega
      go_wp2
      go_ret
      exact ⟨t, by rw [HTQ.out, HQ.out], rfl, r1, hBr⟩
end Go.Proofs.YtejbookaflnpeabDoor
