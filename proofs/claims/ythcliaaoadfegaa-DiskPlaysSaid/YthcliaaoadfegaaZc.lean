/- The reference's disk: burn, Up, has, last, Get. -/
import Derived.Test.YthcliaaoadfegaaZb
import Derived.Deep.DeepCutAuto
namespace Go.Proofs.Ythcliaaoadfegaa.Dk
open Go Go.RowKit
set_option linter.unusedVariables false
set_option linter.unusedSimpArgs false
/-- A boxed value, and a new one. -/
def ent (w : World) (v : RV) : World := (w.alloc (.cells v.cells.toArray 32)).alloc (.cells zeroR.cells.toArray 32)
theorem ent_spec (w : World) (v : RV) : RVB (ent w v) w.heap.size v ∧ RVB (ent w v) (w.heap.size + 1) zeroR ∧ Below w.heap.size w (ent w v) ∧ (ent w v).heap.size = w.heap.size + 1 + 1 := by
  have e1 : (w.alloc (.cells v.cells.toArray 32)).heap.size = w.heap.size + 1 := Array.size_push _
  have e2 : (ent w v).heap.size = w.heap.size + 1 + 1 := by rw [← e1]; exact Array.size_push _
  refine ⟨?_, ?_, ?_, e2⟩
  · exact (Below.heap_alloc _ _ _ (by rw [e1]; omega)).trans (heap_alloc_new _ _)
  · rw [← e1]
    exact heap_alloc_new _ _
  · exact ((Below.refl _ w).alloc (Nat.le_refl _) _).alloc (by rw [e1]; omega) _
theorem ent_lit {w w2 : World} {v : RV} (h : w2 = ent w v) : w2 = (w.alloc (.cells v.cells.toArray 32)).alloc (.cells #[.slice none 0 0, .slice none 0 0, .bool false, .int .i64 0, .int .i64 0, .int .i64 0] 32) := h
theorem RVB.shape {w : World} {k : Nat} {v : RV} (h : RVB w k v) (u : RV) : v.cells.toArray.size = u.cells.toArray.size := rfl
/-- How a call that answers a value of this kind, in block k2, and a number or so comes back. -/
theorem r5_ret {w w' : World} {k2 : Nat} {v u : RV} (h2 : RVB w' k2 v) (hb : Below w.heap.size w w') (hk : w.heap.size ≤ k2) : RVB (w'.setRow k2 u.cells.toArray) k2 u ∧ Below w.heap.size w (w'.setRow k2 u.cells.toArray) := ⟨h2.whole u, below_setRow hb hk _⟩
def burnV (v : RV) : RV := if v.fuse = 0 then { v with down := true, fuse := -1 } else if 0 < v.fuse then { v with fuse := v.fuse - 1 } else v
set_option maxRecDepth 100000 in
set_option maxHeartbeats 1600000 in
theorem r5burn_any (v : RV) (hf : wfi v.fuse) (w : World) : Calls Try.prog 41 #[.agg v.cells.toArray] w fun e w' => e = .returned (.tuple #[.agg (burnV v).cells.toArray, .bool (decide (¬ v.fuse = 0))]) ∧ Below w.heap.size w w' := by
  obtain ⟨h1, h2, hb, hsz⟩ := ent_spec w v
  obtain ⟨k1, hk1⟩ : ∃ k, k = w.heap.size := ⟨_, rfl⟩
  obtain ⟨k2, hk2⟩ : ∃ k, k = w.heap.size + 1 := ⟨_, rfl⟩
  obtain ⟨w2, hw2⟩ : ∃ w2, w2 = ent w v := ⟨_, rfl⟩
  rw [← hk1, ← hw2] at h1
  rw [← hk2, ← hw2] at h2
  rw [← hw2] at hb
  have hne : k1 ≠ k2 := by omega
  have hkb : w.heap.size ≤ k1 ∧ w.heap.size ≤ k2 := by omega
  have c2 := h1.c2
  have c3 := h1.c3
  have f2 := h1.f 2
  have f3 := h1.f 3
  have HKB := Lib.hid hkb
  have HNE := Lib.hid hne
  have H1 := Lib.hid h1
  have H2 := Lib.hid h2
  have HB := Lib.hid hb
  have HW2 := Lib.hid (ent_lit hw2)
  have HK1 := Lib.hid hk1
  have HK2 := Lib.hid hk2
  have HSZ := Lib.hid (Try.r5Size (burnV v))
  have HSZ' := Lib.hid (Try.r5Size' (burnV v))
  clear h1 h2 hb hsz hk1 hk2 hw2 hne hkb
  by_cases h0 : v.fuse = 0
  · have e : burnV v = { v with down := true, fuse := -1 } := by unfold burnV; rw [if_pos h0]
    rw [h0] at c3
    obtain ⟨w3, hw3⟩ : ∃ w3, w3 = w2.setCell ⟨k1, 2, none⟩ (.bool true) := ⟨_, rfl⟩
    obtain ⟨w4, hw4⟩ : ∃ w4, w4 = w3.setCell ⟨k1, 3, none⟩ (.int .i64 (-1)) := ⟨_, rfl⟩
    have f3' : w3.frozen? ⟨k1, 3, none⟩ = false := by rw [hw3]; exact (H1.out.set2 true).f 3
    have c3' : w3.cell? ⟨k1, 3, none⟩ = some (.int .i64 0) := by rw [hw3, ← h0]; exact (H1.out.set2 true).c3
    have g1 : RVB w4 k1 (burnV v) := by rw [e, hw4, hw3]; exact (H1.out.set2 true).set3 (-1)
    have g2 : RVB w4 k2 zeroR := by rw [hw4, hw3]; exact (H2.out.other (fun e => HNE.out e.symm) _).other (fun e => HNE.out e.symm) _
    have gb : Below w.heap.size w w4 := by rw [hw4, hw3]; exact (HB.out.setCell (p := ⟨k1, 2, none⟩) HKB.out.1 _).setCell (p := ⟨k1, 3, none⟩) HKB.out.1 _
    have G2 := Lib.hid g2
    have HCS := Lib.hid g1.cs
    have HW3 := Lib.hid hw3
    have HW4 := Lib.hid hw4
    have GR := Lib.hid (r5_ret (u := burnV v) g2 gb HKB.out.2)
    have HS0 := Lib.hid (g2.shape (burnV v))
    have hde : decide (¬ v.fuse = 0) = false := decide_eq_false (fun h => h h0)
    rw [hde]
    clear g1 g2 gb hw3 hw4 e hde
    obtain ⟨u, hu⟩ : ∃ u, u = burnV v := ⟨_, rfl⟩
    rw [← hu] at HCS HS0 HSZ HSZ' GR ⊢
    clear hu
    go_enter Try.func41, Try.ntmps41
    go_upto_region 1 with fail
    rw [← HW2.out, ← HK2.out, ← HK1.out]
    go_upto_region 3 with fail
    rw [← HW3.out]
    go_upto_region 4 with fail
    rw [← HW4.out]
    go_wp2_with (first
      | (with_reducible show wpList _ _ _ _ _ _; refine wpList_load_all rfl 32 (.tmp 1) rfl ⟨k1, 0, none⟩ rfl u.cells _ HCS.out Try.underlying32 rfl HSZ.out ?_)
      | (with_reducible show wpList _ _ _ _ _ _; refine wpList_store_whole rfl 32 (.tmp 2) (.tmp 9) rfl k2 32 _ u.cells.toArray rfl rfl G2.out.row HSZ'.out HS0.out u.cells_one ?_))
    refine bodyPost_ret (results_row_tmp rfl _ _ k2 32 u.cells (0, 0) _ _ rfl rfl GR.out.1 Try.underlying32 rfl HSZ.out) rfl ⟨rfl, GR.out.2⟩
  · have hde : decide (¬ v.fuse = 0) = true := decide_eq_true h0
    rw [hde]
    by_cases h3 : 0 < v.fuse
    · have e : burnV v = { v with fuse := v.fuse - 1 } := by unfold burnV; rw [if_neg h0, if_pos h3]
      have hwr : wrap64 (v.fuse - 1) = v.fuse - 1 := by have := bounds_i64 hf; unfold wrap64; omega
      obtain ⟨w3, hw3⟩ : ∃ w3, w3 = w2.setCell ⟨k1, 3, none⟩ (.int .i64 (v.fuse - 1)) := ⟨_, rfl⟩
      have g1 : RVB w3 k1 (burnV v) := by rw [e, hw3]; exact H1.out.set3 _
      have g2 : RVB w3 k2 zeroR := by rw [hw3]; exact H2.out.other (fun e => HNE.out e.symm) _
      have gb : Below w.heap.size w w3 := by rw [hw3]; exact HB.out.setCell (p := ⟨k1, 3, none⟩) HKB.out.1 _
      have G2 := Lib.hid g2
      have HCS := Lib.hid g1.cs
      have HW3 := Lib.hid hw3
      have GR := Lib.hid (r5_ret (u := burnV v) g2 gb HKB.out.2)
      have HS0 := Lib.hid (g2.shape (burnV v))
      clear g1 g2 gb hw3 e hde
      obtain ⟨u, hu⟩ : ∃ u, u = burnV v := ⟨_, rfl⟩
      rw [← hu] at HCS HS0 HSZ HSZ' GR ⊢
      clear hu
      go_enter Try.func41, Try.ntmps41
      go_upto_region 1 with fail
      rw [← HW2.out, ← HK2.out, ← HK1.out]
      go_upto_region 7 with fail
      rw [← HW3.out]
      go_wp2_with (first
        | (with_reducible show wpList _ _ _ _ _ _; refine wpList_load_all rfl 32 (.tmp 1) rfl ⟨k1, 0, none⟩ rfl u.cells _ HCS.out Try.underlying32 rfl HSZ.out ?_)
        | (with_reducible show wpList _ _ _ _ _ _; refine wpList_store_whole rfl 32 (.tmp 2) (.tmp 17) rfl k2 32 _ u.cells.toArray rfl rfl G2.out.row HSZ'.out HS0.out u.cells_one ?_))
      refine bodyPost_ret (results_row_tmp rfl _ _ k2 32 u.cells (0, 0) _ _ rfl rfl GR.out.1 Try.underlying32 rfl HSZ.out) rfl ⟨rfl, GR.out.2⟩
    · have e : burnV v = v := by unfold burnV; rw [if_neg h0, if_neg h3]
      rw [e] at HSZ HSZ' ⊢
      have HCS := Lib.hid H1.out.cs
      have GR := Lib.hid (r5_ret (u := v) H2.out HB.out HKB.out.2)
      have HS0 := Lib.hid (H2.out.shape v)
      clear e hde
      go_enter Try.func41, Try.ntmps41
      go_upto_region 1 with fail
      rw [← HW2.out, ← HK2.out, ← HK1.out]
      go_wp2_with (first
        | (with_reducible show wpList _ _ _ _ _ _; refine wpList_load_all rfl 32 (.tmp 1) rfl ⟨k1, 0, none⟩ rfl v.cells _ HCS.out Try.underlying32 rfl HSZ.out ?_)
        | (with_reducible show wpList _ _ _ _ _ _; refine wpList_store_whole rfl 32 (.tmp 2) (.tmp 17) rfl k2 32 _ v.cells.toArray rfl rfl H2.out.row HSZ'.out HS0.out v.cells_one ?_))
      refine bodyPost_ret (results_row_tmp rfl _ _ k2 32 v.cells (0, 0) _ _ rfl rfl GR.out.1 Try.underlying32 rfl HSZ.out) rfl ⟨rfl, GR.out.2⟩
end Go.Proofs.Ythcliaaoadfegaa.Dk
