/- Put's other answers. -/
import Derived.Test.YtgbmkolpdnenlaaMj
namespace Go.Proofs.Ytgbmkolpdnenlaa.Dk
open Go Go.RowKit
set_option linter.unusedVariables false
set_option linter.unusedSimpArgs false
variable {w : World} {d g m n : Nat} {x : DS}
set_option maxRecDepth 100000 in
set_option maxHeartbeats 4000000 in
/-- Put where the two sectors can't be read. -/
theorem put_fail (h : DiskAt Try.prog w d g m n x) (first : Int) (c : Int) (hc : c ≠ 0) (v : Value) (hRP : ∀ w', DiskAt Try.prog w' d g m n x → Calls Try.prog 33 #[.pointer (some ⟨d, 0, none⟩), .int .i64 first] w' fun e w'' => e = .returned (.tuple #[.agg Try.zeroCells95, .int .i64 c]) ∧ Below w'.heap.size w' w'') :
    Calls Try.prog 12 #[.pointer (some ⟨d, 0, none⟩), .int .i64 first, v] w fun e w' => e = .returned (.tuple #[.agg noM.cells.toArray, .int .i64 c]) ∧ Below w.heap.size w w' := by
  have hb1 : Below w.heap.size w (w.alloc (.cells noM.cells.toArray 34)) := (Below.refl _ _).alloc (Nat.le_refl _) _
  have hr1 : (w.alloc (.cells noM.cells.toArray 34)).heap[w.heap.size]? = some (.cells noM.cells.toArray 34 (0, 0)) := heap_alloc_new _ _
  have RP := Lib.hid (hRP _ (h.below hb1 (Nat.le_refl _)))
  obtain ⟨w1, hw1⟩ : ∃ w1, w1 = w.alloc (.cells noM.cells.toArray 34) := ⟨_, rfl⟩
  rw [← hw1] at RP hb1 hr1
  have HW1 := Lib.hid hw1
  have HB1 := Lib.hid hb1
  have HR1 := Lib.hid hr1
  have HSM7 := Lib.hid (show (Try.prog.info? 34).map (·.size) = some (#[Value.int .u64 0, .int .u64 0, .int .u64 0, .int .u64 0, .int .u64 0, .int .u64 0, .int .u64 0] : Array Value).size by kernel_rfl)
  clear hw1 hb1 hr1 h hRP
  go_enter Try.func12, Try.ntmps12
  go_wp2_with fail
  rw [Try.zeroP7, ← HW1.out]
  refine RP.out.mono ?_
  rintro e w2 ⟨rfl, hb2⟩
  have HSZ := Lib.hid (show (Try.prog.info? 95).map (·.size) = some Try.zeroCells95.size by rw [Try.pairSize, Try.zeroPSize])
  have HB2 := Lib.hid (HB1.out.trans (hb2.mono HB1.out.size))
  have HR2 := Lib.hid ((hb2.block _ (lt_of_row HR1.out)).trans HR1.out)
  have HR5 := Lib.hid (show (w2.alloc (.cells Try.zeroCells95 95)).heap[w.heap.size]? = some (.cells noM.cells.toArray 34 (0, 0)) from (Below.heap_alloc _ _ _ (lt_of_row HR2.out)).trans HR2.out)
  have HB5 := Lib.hid (show Below w.heap.size w (w2.alloc (.cells Try.zeroCells95 95)) from HB2.out.alloc HB2.out.size _)
  clear hb2 RP
  go_wp2_with (first
    | (with_reducible show wpList _ _ _ _ _ _; refine wpList_store_new rfl 95 (.tmp 8) (.tmp 19) rfl 95 Try.zeroCells95 Try.zeroCells95 rfl rfl HSZ.out rfl Try.zeroPOnes ?_)
    | (with_reducible show wpList _ _ _ _ _ _; refine wpList_store_whole rfl 34 (.tmp 6) (.tmp 23) rfl w.heap.size 34 noM.cells.toArray #[Value.int .u64 0, .int .u64 0, .int .u64 0, .int .u64 0, .int .u64 0, .int .u64 0, .int .u64 0] rfl rfl HR5.out HSM7.out (by kernel_rfl) (by kernel_rfl) ?_))
  refine bodyPost_ret (results2_cell_row rfl _ _ w.heap.size 34 _ (0, 0) _ (.int .i64 c) rfl rfl (setRow_heap _ _ _ _ _ (0, 0) HR5.out) Try.underlying34 rfl HSM7.out) rfl ⟨by rw [Try.zeroP7], below_setRow HB5.out (Nat.le_refl _) _⟩
set_option maxRecDepth 100000 in
set_option maxHeartbeats 4000000 in
/-- Put of too many numbers. -/
theorem put_long (h : DiskAt Try.prog w d g m n x) (first : Nat) (hr : first + 2 ≤ x.s.length) (hdn : x.down = false) (ao : Option Addr) (N c : Nat) (h6 : 6 < N) :
    Calls Try.prog 12 #[.pointer (some ⟨d, 0, none⟩), .int .i64 (first : Int), .slice ao N c] w fun e w' => e = .returned (.tuple #[.agg noM.cells.toArray, .int .i64 2]) ∧ Below w.heap.size w w' := by
  have hb1 : Below w.heap.size w (w.alloc (.cells noM.cells.toArray 34)) := (Below.refl _ _).alloc (Nat.le_refl _) _
  have hr1 : (w.alloc (.cells noM.cells.toArray 34)).heap[w.heap.size]? = some (.cells noM.cells.toArray 34 (0, 0)) := heap_alloc_new _ _
  have RP := Lib.hid (readPair_ok (h.below hb1 (Nat.le_refl _)) first hr hdn)
  obtain ⟨w1, hw1⟩ : ∃ w1, w1 = w.alloc (.cells noM.cells.toArray 34) := ⟨_, rfl⟩
  rw [← hw1] at RP hb1 hr1
  have HW1 := Lib.hid hw1
  have HB1 := Lib.hid hb1
  have HR1 := Lib.hid hr1
  have H := Lib.hid h
  have hlen : (6 : Int) < (N : Int) := by omega
  clear hw1 hb1 hr1 h
  go_enter Try.func12, Try.ntmps12
  go_wp2_with fail
  rw [Try.zeroP7, ← HW1.out]
  refine RP.out.mono ?_
  rintro e w2 ⟨a, b, ha, hb, la, lb, rfl, hb2⟩
  have HA := Lib.hid ha
  have HBB := Lib.hid hb
  have HLA := Lib.hid la
  have HLB := Lib.hid lb
  have HSZ := Lib.hid (show (Try.prog.info? 95).map (·.size) = some (bvs a ++ bvs b).toArray.size by rw [Try.pairSize]; simp [la, lb, bvs_length])
  have HSO := Lib.hid (show Try.zeroCells95.size = (bvs a ++ bvs b).toArray.size by rw [Try.zeroPSize]; simp [la, lb, bvs_length])
  have H1 := Lib.hid (show (bvs a ++ bvs b).toArray.all (·.oneCell') = true from all_oneCell_toArray (fun u hu => by rcases List.mem_append.1 hu with h | h; exact bvs_one _ u h; exact bvs_one _ u h))
  have HB2 := Lib.hid (HB1.out.trans (hb2.mono HB1.out.size))
  have HR2 := Lib.hid ((hb2.block _ (lt_of_row HR1.out)).trans HR1.out)
  clear ha hb la lb hb2 RP
  have HX := Lib.hid (show (w2.alloc (.cells (bvs a ++ bvs b).toArray 95)).heap[w.heap.size]? = some (.cells noM.cells.toArray 34 (0, 0)) from (Below.heap_alloc _ _ _ (lt_of_row HR2.out)).trans HR2.out)
  have HBE := Lib.hid (show Below w.heap.size w (w2.alloc (.cells (bvs a ++ bvs b).toArray 95)) from HB2.out.alloc HB2.out.size _)
  have HSM7 := Lib.hid (show (Try.prog.info? 34).map (·.size) = some (#[Value.int .u64 0, .int .u64 0, .int .u64 0, .int .u64 0, .int .u64 0, .int .u64 0, .int .u64 0] : Array Value).size by kernel_rfl)
  go_wp2_with (first
    | (with_reducible show wpList _ _ _ _ _ _; refine wpList_store_new rfl 95 (.tmp 8) (.tmp 19) rfl 95 Try.zeroCells95 (bvs a ++ bvs b).toArray rfl rfl HSZ.out HSO.out H1.out ?_)
    | (with_reducible show wpList _ _ _ _ _ _; refine wpList_store_whole rfl 34 (.tmp 6) (.tmp 28) rfl w.heap.size 34 noM.cells.toArray #[Value.int .u64 0, .int .u64 0, .int .u64 0, .int .u64 0, .int .u64 0, .int .u64 0, .int .u64 0] rfl rfl HX.out HSM7.out (by kernel_rfl) (by kernel_rfl) ?_))
  refine bodyPost_ret (results2_cell_row rfl _ _ w.heap.size 34 _ (0, 0) _ (.int .i64 2) rfl rfl (setRow_heap _ _ _ _ _ (0, 0) HX.out) Try.underlying34 rfl HSM7.out) rfl ⟨by rw [Try.zeroP7], below_setRow HBE.out (Nat.le_refl _) _⟩
set_option maxRecDepth 100000 in
set_option maxHeartbeats 4000000 in
/-- Put where no number is left. -/
theorem put_full (h : DiskAt Try.prog w d g m n x) (first : Nat) (hr : first + 2 ≤ x.s.length) (hdn : x.down = false) (ao : Option Addr) (N c : Nat) (h6 : N ≤ 6) (hgr : 18446744073709551613 < x.great first) :
    Calls Try.prog 12 #[.pointer (some ⟨d, 0, none⟩), .int .i64 (first : Int), .slice ao N c] w fun e w' => e = .returned (.tuple #[.agg noM.cells.toArray, .int .i64 3]) ∧ Below w.heap.size w w' := by
  have hb1 : Below w.heap.size w (w.alloc (.cells noM.cells.toArray 34)) := (Below.refl _ _).alloc (Nat.le_refl _) _
  have hr1 : (w.alloc (.cells noM.cells.toArray 34)).heap[w.heap.size]? = some (.cells noM.cells.toArray 34 (0, 0)) := heap_alloc_new _ _
  have RP := Lib.hid (readPair_ok (h.below hb1 (Nat.le_refl _)) first hr hdn)
  obtain ⟨w1, hw1⟩ : ∃ w1, w1 = w.alloc (.cells noM.cells.toArray 34) := ⟨_, rfl⟩
  rw [← hw1] at RP hb1 hr1
  have HW1 := Lib.hid hw1
  have HB1 := Lib.hid hb1
  have HR1 := Lib.hid hr1
  have H := Lib.hid h
  have HGR := Lib.hid hgr
  have hlen : ¬ ((6 : Int) < (N : Int)) := by omega
  clear hw1 hb1 hr1 h hgr
  go_enter Try.func12, Try.ntmps12
  go_wp2_with fail
  rw [Try.zeroP7, ← HW1.out]
  refine RP.out.mono ?_
  rintro e w2 ⟨a, b, ha, hb, la, lb, rfl, hb2⟩
  have HA := Lib.hid ha
  have HBB := Lib.hid hb
  have HLA := Lib.hid la
  have HLB := Lib.hid lb
  have HSZ := Lib.hid (show (Try.prog.info? 95).map (·.size) = some (bvs a ++ bvs b).toArray.size by rw [Try.pairSize]; simp [la, lb, bvs_length])
  have HSO := Lib.hid (show Try.zeroCells95.size = (bvs a ++ bvs b).toArray.size by rw [Try.zeroPSize]; simp [la, lb, bvs_length])
  have H1 := Lib.hid (show (bvs a ++ bvs b).toArray.all (·.oneCell') = true from all_oneCell_toArray (fun u hu => by rcases List.mem_append.1 hu with h | h; exact bvs_one _ u h; exact bvs_one _ u h))
  have HB2 := Lib.hid (HB1.out.trans (hb2.mono HB1.out.size))
  have HR2 := Lib.hid ((hb2.block _ (lt_of_row HR1.out)).trans HR1.out)
  clear ha hb la lb hb2 RP
  go_wp2_with (with_reducible show wpList _ _ _ _ _ _; refine wpList_store_new rfl 95 (.tmp 8) (.tmp 19) rfl 95 Try.zeroCells95 (bvs a ++ bvs b).toArray rfl rfl HSZ.out HSO.out H1.out ?_)
  obtain ⟨g8, hg8⟩ : ∃ g8, g8 = w2.heap.size := ⟨_, rfl⟩
  obtain ⟨w3, hw3⟩ : ∃ w3, w3 = w2.alloc (.cells (bvs a ++ bvs b).toArray 95) := ⟨_, rfl⟩
  rw [← hg8, ← hw3]
  have hr8 : w3.heap[g8]? = some (.cells (bvs a ++ bvs b).toArray 95 (0, 0)) := by rw [hw3, hg8]; exact heap_alloc_new _ _
  have b3 : Below w2.heap.size w2 w3 := by rw [hw3]; exact (Below.refl _ _).alloc (Nat.le_refl _) _
  have HP := Lib.hid (show PairAt w3 g8 a b from ⟨hr8, HLA.out, HLB.out⟩)
  have GA := Lib.hid (greatest_any HP.out)
  have HB3 := Lib.hid (HB2.out.trans (b3.mono HB2.out.size))
  have HR3 := Lib.hid ((b3.block _ (lt_of_row HR2.out)).trans HR2.out)
  obtain ⟨G, hG⟩ : ∃ G, G = greatN a b 2 := ⟨_, rfl⟩
  rw [← hG] at GA
  have HG := Lib.hid (show G = x.great first by rw [hG, HA.out, HBB.out]; rfl)
  have hGl : 18446744073709551613 < G := by rw [HG.out]; exact HGR.out
  have hcg : (18446744073709551613 : Int) < (G : Int) := by omega
  have HGL := Lib.hid hGl
  clear hr8 b3 hw3 hG HB2 HR2 HSZ HSO H1 hGl hg8
  refine GA.out.mono ?_
  rintro e w4 ⟨rfl, hb4⟩
  have HBE := Lib.hid (HB3.out.trans (hb4.mono HB3.out.size))
  have HX := Lib.hid ((hb4.block _ (lt_of_row HR3.out)).trans HR3.out)
  have HSM7 := Lib.hid (show (Try.prog.info? 34).map (·.size) = some (#[Value.int .u64 0, .int .u64 0, .int .u64 0, .int .u64 0, .int .u64 0, .int .u64 0, .int .u64 0] : Array Value).size by kernel_rfl)
  clear hb4 GA HB3 HR3 HP
  go_wp2_with (with_reducible show wpList _ _ _ _ _ _; refine wpList_store_whole rfl 34 (.tmp 6) (.tmp 32) rfl w.heap.size 34 noM.cells.toArray #[Value.int .u64 0, .int .u64 0, .int .u64 0, .int .u64 0, .int .u64 0, .int .u64 0, .int .u64 0] rfl rfl HX.out HSM7.out (by kernel_rfl) (by kernel_rfl) ?_)
  refine bodyPost_ret (results2_cell_row rfl _ _ w.heap.size 34 _ (0, 0) _ (.int .i64 3) rfl rfl (setRow_heap _ _ _ _ _ (0, 0) HX.out) Try.underlying34 rfl HSM7.out) rfl ⟨by rw [Try.zeroP7], below_setRow HBE.out (Nat.le_refl _) _⟩
end Go.Proofs.Ytgbmkolpdnenlaa.Dk
