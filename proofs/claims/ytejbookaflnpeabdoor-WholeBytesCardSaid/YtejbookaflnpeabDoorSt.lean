/- The eight numbers as they are now. -/
import Derived.Test.YtejbookaflnpeabDoorWd
namespace Go.Proofs.YtejbookaflnpeabDoor
open Go Go.RowKit
set_option linter.unusedVariables false

def zip8 (G S : List Nat) : List Nat := (List.range 8).map fun i => (G.getD i 0 + S.getD i 0) % 4294967296
/-- The first i have been gained. -/
def zipTo (G S : List Nat) (i : Nat) : List Nat := (zip8 G S).take i ++ G.drop i
theorem zip8_length (G S : List Nat) : (zip8 G S).length = 8 := by simp [zip8]
theorem zipTo_length (G S : List Nat) (hG : G.length = 8) {i : Nat} (hi : i ≤ 8) : (zipTo G S i).length = 8 := by simp [zipTo, zip8_length, hG]; omega
theorem zipTo_get (G S : List Nat) (hG : G.length = 8) {i : Nat} (hi : i < 8) : (zipTo G S i).getD i 0 = G.getD i 0 := by
  have h1 : ((zip8 G S).take i).length = i := by simp [zip8_length]; omega
  simp [zipTo, List.getD, List.getElem?_append, zip8_length, Nat.min_eq_left (show i ≤ 8 by omega)]
theorem zipTo_set (G S : List Nat) (hG : G.length = 8) {i : Nat} (hi : i < 8) : (zipTo G S i).set i ((G.getD i 0 + S.getD i 0) % 4294967296) = zipTo G S (i + 1) := by
  have h1 : ((zip8 G S).take i).length = i := by simp [zip8_length]; omega
  have h2 : G.drop i = G[i]'(by omega) :: G.drop (i + 1) := List.drop_eq_getElem_cons (by omega)
  unfold zipTo
  rw [List.set_append_right _ _ (by omega), h1, Nat.sub_self, h2, List.set_cons_zero, List.take_succ_eq_append_getElem (by rw [zip8_length]; exact hi), List.append_assoc]
  simp [zip8]
def Z8 : List Value := u32s (List.replicate 8 0)
theorem HashAt.rangeG {w : World} {b : Nat} {G : List Nat} {B : List UInt8} {n : Nat} (h : HashAt w b G B n) : w.rangeAt b 0 (u32s G) := by
  intro j v hv
  have hj : j < G.length := by
    rcases Nat.lt_or_ge j G.length with h' | h'
    · exact h'
    · rw [List.getElem?_eq_none (by rw [u32s_length]; exact h')] at hv; cases hv
  have := h.gained j (by have := h.1; omega)
  rw [u32s_get G j hj] at hv
  rw [Nat.zero_add, this, ← hv]
def StRel (w : World) (G S : List Nat) (u : Value) (wr : World) : Prop :=
  ∃ i : Nat, u = .int .i64 (i : Int) ∧ i ≤ 8 ∧ wr.heap[w.heap.size + 1]? = some (.cells (u32s (zipTo G S i)).toArray 50 (0, 0)) ∧ wr.heap[w.heap.size]? = some (.cells Z8.toArray 50 (0, 0)) ∧ Below w.heap.size w wr
set_option maxRecDepth 100000 in
set_option maxHeartbeats 2000000 in
theorem state_any {w : World} {b : Nat} {G : List Nat} {B : List UInt8} {n : Nat} (h : HashAt w b G B n) (S : List Nat) (hS : S.length = 8) (hsc : ∀ i, i < 8 → w.cell? ⟨1, i, none⟩ = some (.int .u32 ((S.getD i 0 : Nat) : Int))) :
    Calls Tryd.prog 35 #[.pointer (some ⟨b, 0, none⟩)] w fun e w' => e = .returned (.agg (u32s (zip8 G S)).toArray) ∧ Below w.heap.size w w' := by
  have hb := h.lt
  have hG := h.1
  have hgs : 1 < w.heap.size := World.block_lt_of_cell? w _ (hsc 0 (by decide))
  obtain ⟨w2, hw2⟩ : ∃ w2, w2 = w.alloc (.cells #[.int .u32 0, .int .u32 0, .int .u32 0, .int .u32 0, .int .u32 0, .int .u32 0, .int .u32 0, .int .u32 0] 50) := ⟨_, rfl⟩
  have hB2 : Below w.heap.size w w2 := by rw [hw2]; exact (Below.refl _ _).alloc (Nat.le_refl _) _
  have rg : w2.rangeAt b 0 (u32s G) := (h.below hB2 hb).rangeG
  have b0 : w2.heap[w.heap.size]? = some (.cells Z8.toArray 50 (0, 0)) := by rw [hw2]; exact heap_alloc_new w _
  obtain ⟨w3, hw3⟩ : ∃ w3, w3 = w2.alloc (.cells #[.int .u32 0, .int .u32 0, .int .u32 0, .int .u32 0, .int .u32 0, .int .u32 0, .int .u32 0, .int .u32 0] 50) := ⟨_, rfl⟩
  have hs2 : w2.heap.size = w.heap.size + 1 := by rw [hw2]; simp
  have b1 : w3.heap[w.heap.size + 1]? = some (.cells Z8.toArray 50 (0, 0)) := by rw [hw3, ← hs2]; exact heap_alloc_new w2 _
  have b0' : w3.heap[w.heap.size]? = some (.cells Z8.toArray 50 (0, 0)) := by rw [hw3, Below.heap_alloc _ _ _ (by omega)]; exact b0
  have hB3 : Below w.heap.size w w3 := by rw [hw3]; exact hB2.alloc (by omega) _
  have H2 := Lib.hid hB2
  have sz := Lib.hid (show (Tryd.prog.info? 50).map (·.size) = some (u32s G).length by rw [u32s_length, hG]; kernel_rfl)
  have sz' := Lib.hid (show (Tryd.prog.info? 50).map (·.size) = some (u32s G).toArray.size by rw [List.size_toArray, u32s_length, hG]; kernel_rfl)
  have so := Lib.hid (show Z8.toArray.size = (u32s G).toArray.size by simp [Z8, u32s_length, hG])
  have s1 := Lib.hid (show (u32s G).toArray.all (·.oneCell') = true from all_oneCell_toArray (u32s_one _))
  have HW := Lib.hid hw2
  have HW3 := Lib.hid hw3
  rw [hw3, hw2] at b1
  rw [hw2] at rg
  have RG := Lib.hid rg
  have B1 := Lib.hid b1
  have B0 := Lib.hid b0'
  have HS := Lib.hid hsc
  have H3 := Lib.hid hB3
  clear rg b0 b1 b0' hB2 hB3 hw2 hw3 hsc hs2
  go_enter Tryd.func35, Tryd.ntmps35
  go_wp2_with (first
    | (refine wpList_load_mid rfl 50 (.tmp 7) rfl b 0 rfl (u32s G) _ RG.out Tryd.underlying50 rfl sz.out ?_)
    | (refine wpList_store_all rfl 50 (.tmp 3) (.tmp 8) rfl (w.heap.size + 1) 50 Z8.toArray (u32s G).toArray rfl rfl B1.out sz'.out so.out s1.out ?_))
  rw [← HW.out, ← HW3.out]
  have st : (w3.setRow (w.heap.size + 1) (u32s G).toArray).heap[w.heap.size + 1]? = some (.cells (u32s (zipTo G S 0)).toArray 50 (0, 0)) := by
    have := B1.out
    rw [← HW.out, ← HW3.out] at this
    simpa [zipTo] using setRow_heap w3 (w.heap.size + 1) _ (u32s G).toArray 50 (0, 0) this
  have st0 : (w3.setRow (w.heap.size + 1) (u32s G).toArray).heap[w.heap.size]? = some (.cells Z8.toArray 50 (0, 0)) := by
    rw [setRow_other w3 (w.heap.size + 1) w.heap.size _ (by omega)]; exact B0.out
  have sB : Below w.heap.size w (w3.setRow (w.heap.size + 1) (u32s G).toArray) := below_setRow H3.out (by omega) _
  generalize w3.setRow (w.heap.size + 1) (u32s G).toArray = w4 at *
  clear RG B1 B0 H3 H2 HW HW3 sz sz' so s1 w2 w3
  have ST := Lib.hid st
  have ST0 := Lib.hid st0
  clear st st0
  go_loopw [9] (fun u wr => StRel w G S u wr) (fun u _ => 8 - (intOf u).toNat)
  case atStart => exact ⟨0, rfl, Nat.zero_le _, ST.out, ST0.out, sB⟩
  case round =>
    clear ST ST0 sB
    obtain ⟨i, rfl, hi, r1, r0, hBr⟩ := hrel
    by_cases h8 : i < 8
    · have c0 : wr.cell? ⟨w.heap.size + 1, i, none⟩ = some (.int .u32 ((G.getD i 0 : Nat) : Int)) := by
        rw [cell_of_row wr _ i _ _ _ r1, ← zipTo_get G S hG h8]
        simpa using u32s_get (zipTo G S i) i (by rw [zipTo_length G S hG hi]; exact h8)
      have k0 : wr.cell? ⟨1, i, none⟩ = some (.int .u32 ((S.getD i 0 : Nat) : Int)) := (hBr.cell (p := ⟨1, i, none⟩) hgs).trans (HS.out i h8)
      have gf : wr.frozen? ⟨w.heap.size + 1, i, none⟩ = false := frozen_of_row wr _ i _ _ r1
      have hn := zipTo_set G S hG h8
      have HN := Lib.hid hn
      have R1 := Lib.hid r1
      have R0 := Lib.hid r0
      clear hn r1 r0
      generalize G.getD i 0 = x at *
      generalize S.getD i 0 = y at *
      have p0 : (0 : Int) ≤ (i : Int) := by omega
      have j0 : (i : Int) < 8 := by omega
      go_wp2_with fail
      (refine wp_region_quiet_tail 7 (by kernel_rfl) (by kernel_rfl) ?_; simp only [List.take_succ_cons, List.take_zero, List.drop_succ_cons, List.drop_zero]; (repeat (go_big_quiet_step (fail))); refine wpQuiet_nil ?_; intro _ hw'; obtain ⟨nq, hw''⟩ := hw'; subst hw'')
      go_wp2
      refine ⟨⟨i + 1, by go_num, by omega, ?_, ?_, ?_⟩, by simp [intOf]; omega⟩
      · rw [heap_setCell_same (wr.drewN nq) _ i _ _ _ R1.out, ← HN.out]
        have hv : ∀ x : Nat, (u32s (zipTo G S i)).toArray.setIfInBounds i (.int .u32 (x : Int)) = (u32s ((zipTo G S i).set i x)).toArray := by
          intro x
          rw [← u32s_set]; simp
        rw [← hv]
        congr 2
      · rw [heap_setCell_other _ _ _ _ (by simp)]; exact R0.out
      · exact (below_drewN hBr nq).setCell (by simp) _
    · obtain rfl : i = 8 := by omega
      have e8 : zipTo G S 8 = zip8 G S := by simp [zipTo, hG, zip8_length, List.take_of_length_le]
      rw [e8] at r1
      have R1 := Lib.hid r1
      have R0 := Lib.hid r0
      have hsz : (u32s (zip8 G S)).toArray.size = 8 := by simp [u32s, zip8_length]
      have sz := Lib.hid (show (Tryd.prog.info? 50).map (·.size) = some (u32s (zip8 G S)).toArray.size by rw [hsz]; kernel_rfl)
      have so := Lib.hid (show Z8.toArray.size = (u32s (zip8 G S)).toArray.size by rw [hsz]; simp [Z8, u32s])
      have s1 := Lib.hid (show (u32s (zip8 G S)).toArray.all (·.oneCell') = true from all_oneCell_toArray (u32s_one _))
      clear r1 r0 e8 hsz
      go_wp2_with (first
        | (refine wpList_load_row rfl 50 (.tmp 3) rfl (w.heap.size + 1) rfl 50 _ (0, 0) _ R1.out Tryd.underlying50 rfl sz.out ?_)
        | (refine wpList_store_all rfl 50 (.tmp 2) (.tmp 21) rfl w.heap.size 50 Z8.toArray (u32s (zip8 G S)).toArray rfl rfl R0.out sz.out so.out s1.out ?_))
      refine bodyPost_ret (results_cell_row rfl _ _ w.heap.size 50 (u32s (zip8 G S)).toArray (0, 0) _ rfl (setRow_heap wr _ _ _ _ (0, 0) R0.out) Tryd.underlying50 rfl sz.out) rfl ?_
      exact ⟨rfl, below_setRow hBr (Nat.le_refl _) _⟩
end Go.Proofs.YtejbookaflnpeabDoor
