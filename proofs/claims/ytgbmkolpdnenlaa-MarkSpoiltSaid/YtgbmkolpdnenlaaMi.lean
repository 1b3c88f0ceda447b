/- Get: the last mark of two sectors. -/
import Derived.Test.YtgbmkolpdnenlaaMh
namespace Go.Proofs.Ytgbmkolpdnenlaa.Dk
open Go Go.RowKit
set_option linter.unusedVariables false
set_option linter.unusedSimpArgs false
variable {w : World} {d g m n : Nat} {x : DS}
/-- The last mark on two sectors of a disk that is up. -/
def DS.lastMark (x : DS) (first : Nat) : MkD := lastM (x.read (first : Int)).1 (x.read ((first + 1 : Nat) : Int)).1 2
theorem Try.zeroP7 : (#[Value.int .u64 0, .int .u64 0, .int .u64 0, .int .u64 0, .int .u64 0, .int .u64 0, .int .u64 0] : Array Value) = noM.cells.toArray := by kernel_rfl
set_option maxRecDepth 100000 in
set_option maxHeartbeats 4000000 in
theorem get_ok (h : DiskAt Try.prog w d g m n x) (first : Nat) (hr : first + 2 ≤ x.s.length) (hdn : x.down = false) :
    Calls Try.prog 16 #[.pointer (some ⟨d, 0, none⟩), .int .i64 (first : Int)] w fun e w' => e = .returned (.tuple #[.agg (if 0 < (x.lastMark first).seq then x.lastMark first else noM).cells.toArray, .int .i64 (if 0 < (x.lastMark first).seq then 0 else 4)]) ∧ Below w.heap.size w w' := by
  have hb1 : Below w.heap.size w (w.alloc (.cells noM.cells.toArray 34)) := (Below.refl _ _).alloc (Nat.le_refl _) _
  have hr1 : (w.alloc (.cells noM.cells.toArray 34)).heap[w.heap.size]? = some (.cells noM.cells.toArray 34 (0, 0)) := heap_alloc_new _ _
  have RP := Lib.hid (readPair_ok (h.below hb1 (Nat.le_refl _)) first hr hdn)
  obtain ⟨w1, hw1⟩ : ∃ w1, w1 = w.alloc (.cells noM.cells.toArray 34) := ⟨_, rfl⟩
  rw [← hw1] at RP hb1 hr1
  have HW1 := Lib.hid hw1
  have HB1 := Lib.hid hb1
  have HR1 := Lib.hid hr1
  clear hw1 hb1 hr1 h
  go_enter Try.func16, Try.ntmps16
  go_wp2_with fail
  rw [Try.zeroP7, ← HW1.out]
  refine RP.out.mono ?_
  rintro e w2 ⟨a, b, ha, hb, la, lb, rfl, hb2⟩
  have HA := Lib.hid ha
  have HBB := Lib.hid hb
  have HLA := Lib.hid la
  have HLB := Lib.hid lb
  have HSZ := Lib.hid (show (Try.prog.info? 95).map (·.size) = some (bvs a ++ bvs b).toArray.size by rw [Try.pairSize]; simp [la, lb, bvs_length])
  have HSO := Lib.hid (show Try.zeroCells95.size = (bvs a ++ bvs b).toArray.size by rw [Try.zeroPSize]; simp [la, lb, bvs_length])
  have H1 := Lib.hid (show (bvs a ++ bvs b).toArray.all (·.oneCell') = true from all_oneCell_toArray (fun u hu => by rcases List.mem_append.1 hu with h | h; exact bvs_one _ u h; exact bvs_one _ u h))
  have HB2 := Lib.hid (HB1.out.trans (hb2.mono HB1.out.size))
  have HR2 := Lib.hid ((hb2.block _ (lt_of_row HR1.out)).trans HR1.out)
  clear ha hb la lb hb2 RP
  go_wp2_with (with_reducible show wpList _ _ _ _ _ _; refine wpList_store_new rfl 95 (.tmp 6) (.tmp 14) rfl 95 Try.zeroCells95 (bvs a ++ bvs b).toArray rfl rfl HSZ.out HSO.out H1.out ?_)
  obtain ⟨g6, hg6⟩ : ∃ g6, g6 = w2.heap.size := ⟨_, rfl⟩
  obtain ⟨w3, hw3⟩ : ∃ w3, w3 = w2.alloc (.cells (bvs a ++ bvs b).toArray 95) := ⟨_, rfl⟩
  rw [← hg6, ← hw3]
  have hr6 : w3.heap[g6]? = some (.cells (bvs a ++ bvs b).toArray 95 (0, 0)) := by rw [hw3, hg6]; exact heap_alloc_new _ _
  have b3 : Below w2.heap.size w2 w3 := by rw [hw3]; exact (Below.refl _ _).alloc (Nat.le_refl _) _
  have LA := Lib.hid (last_any (w := w3) (g := g6) (a := a) (b := b) ⟨hr6, HLA.out, HLB.out⟩)
  have HB3 := Lib.hid (HB2.out.trans (b3.mono HB2.out.size))
  have HR3 := Lib.hid ((b3.block _ (lt_of_row HR2.out)).trans HR2.out)
  obtain ⟨lm, hlm⟩ : ∃ lm, lm = lastM a b 2 := ⟨_, rfl⟩
  rw [← hlm] at LA
  have HLM := Lib.hid (show lm = x.lastMark first by rw [hlm, HA.out, HBB.out]; rfl)
  have hok : lm.Ok := hlm ▸ lastM_ok a b 2
  have HSM := Lib.hid (Try.markSize hok)
  have HSM2 := Lib.hid (show (Try.prog.info? 34).map (·.size) = some lm.cells.toArray.size by rw [List.size_toArray]; exact HSM.out)
  have HSM0 := Lib.hid (show (Try.prog.info? 34).map (·.size) = some noM.cells.toArray.size by rw [List.size_toArray]; exact Try.markSize noM_ok)
  have HSO2 := Lib.hid (show noM.cells.toArray.size = lm.cells.toArray.size by rw [List.size_toArray, List.size_toArray, MkD.cells_length hok, MkD.cells_length noM_ok])
  have HS7 := Lib.hid (show (#[Value.int .u64 0, .int .u64 0, .int .u64 0, .int .u64 0, .int .u64 0, .int .u64 0, .int .u64 0] : Array Value).size = lm.cells.toArray.size by have := MkD.cells_length hok; simp [this])
  clear hr6 b3 hlm hw3 HR2 HB2 HSZ HSO H1 HA HBB hok
  refine LA.out.mono ?_
  rintro e w4 ⟨rfl, hb4⟩
  have HB4 := Lib.hid (HB3.out.trans (hb4.mono HB3.out.size))
  have HR4 := Lib.hid ((hb4.block _ (lt_of_row HR3.out)).trans HR3.out)
  clear hb4 LA
  have HR5 := Lib.hid (show (w4.alloc (.cells lm.cells.toArray 34)).heap[w.heap.size]? = some (.cells noM.cells.toArray 34 (0, 0)) from (Below.heap_alloc _ _ _ (lt_of_row HR4.out)).trans HR4.out)
  have HR8 := Lib.hid (heap_alloc_new w4 (.cells lm.cells.toArray 34))
  have HB5 := Lib.hid (show Below w.heap.size w (w4.alloc (.cells lm.cells.toArray 34)) from HB4.out.alloc HB4.out.size _)
  have HSM7 := Lib.hid (show (Try.prog.info? 34).map (·.size) = some (#[Value.int .u64 0, .int .u64 0, .int .u64 0, .int .u64 0, .int .u64 0, .int .u64 0, .int .u64 0] : Array Value).size by kernel_rfl)
  go_wp2_with (first
    | (with_reducible show wpList _ _ _ _ _ _; refine wpList_store_new rfl 34 (.tmp 8) (.tmp 22) rfl 34 _ lm.cells.toArray rfl rfl HSM2.out HS7.out lm.cells_one ?_)
    | (with_reducible show wpList _ _ _ _ _ _; refine wpList_store_whole rfl 34 (.tmp 4) (.tmp 26) rfl w.heap.size 34 noM.cells.toArray #[Value.int .u64 0, .int .u64 0, .int .u64 0, .int .u64 0, .int .u64 0, .int .u64 0, .int .u64 0] rfl rfl HR5.out HSM7.out (by kernel_rfl) (by kernel_rfl) ?_)
    | (with_reducible show wpList _ _ _ _ _ _; refine wpList_load_all rfl 34 (.tmp 8) rfl ⟨w4.heap.size, 0, none⟩ rfl lm.cells _ (cells_row HR8.out) Try.underlying34 rfl HSM.out ?_)
    | (with_reducible show wpList _ _ _ _ _ _; refine wpList_store_whole rfl 34 (.tmp 4) (.tmp 27) rfl w.heap.size 34 noM.cells.toArray lm.cells.toArray rfl rfl HR5.out HSM2.out HSO2.out lm.cells_one ?_))
  all_goals rename_i hq
  · rw [← HLM.out] at h
    simp [h] at hq
  · refine bodyPost_ret (results2_cell_row rfl _ _ w.heap.size 34 _ (0, 0) _ (.int .i64 4) rfl rfl (setRow_heap _ _ _ _ _ (0, 0) HR5.out) Try.underlying34 rfl HSM7.out) rfl ⟨by rw [Try.zeroP7], below_setRow HB5.out (Nat.le_refl _) _⟩
  · refine bodyPost_ret (results2_cell_row rfl _ _ w.heap.size 34 _ (0, 0) _ (.int .i64 0) rfl rfl (setRow_heap _ _ _ _ _ (0, 0) HR5.out) Try.underlying34 rfl HSM2.out) rfl ⟨by rw [HLM.out], below_setRow HB5.out (Nat.le_refl _) _⟩
  · rw [← HLM.out] at h
    simp [h] at hq
set_option maxRecDepth 100000 in
set_option maxHeartbeats 4000000 in
/-- Get where the two sectors can't be read. -/
theorem get_fail (h : DiskAt Try.prog w d g m n x) (first : Int) (c : Int) (hc : c ≠ 0) (hRP : ∀ w', DiskAt Try.prog w' d g m n x → Calls Try.prog 33 #[.pointer (some ⟨d, 0, none⟩), .int .i64 first] w' fun e w'' => e = .returned (.tuple #[.agg Try.zeroCells95, .int .i64 c]) ∧ Below w'.heap.size w' w'') :
    Calls Try.prog 16 #[.pointer (some ⟨d, 0, none⟩), .int .i64 first] w fun e w' => e = .returned (.tuple #[.agg noM.cells.toArray, .int .i64 c]) ∧ Below w.heap.size w w' := by
  have hb1 : Below w.heap.size w (w.alloc (.cells noM.cells.toArray 34)) := (Below.refl _ _).alloc (Nat.le_refl _) _
  have hr1 : (w.alloc (.cells noM.cells.toArray 34)).heap[w.heap.size]? = some (.cells noM.cells.toArray 34 (0, 0)) := heap_alloc_new _ _
  have RP := Lib.hid (hRP _ (h.below hb1 (Nat.le_refl _)))
  obtain ⟨w1, hw1⟩ : ∃ w1, w1 = w.alloc (.cells noM.cells.toArray 34) := ⟨_, rfl⟩
  rw [← hw1] at RP hb1 hr1
  have HW1 := Lib.hid hw1
  have HB1 := Lib.hid hb1
  have HR1 := Lib.hid hr1
  have HSM7 := Lib.hid (show (Try.prog.info? 34).map (·.size) = some (#[Value.int .u64 0, .int .u64 0, .int .u64 0, .int .u64 0, .int .u64 0, .int .u64 0, .int .u64 0] : Array Value).size by kernel_rfl)
  clear hw1 hb1 hr1 h hRP
  go_enter Try.func16, Try.ntmps16
  go_wp2_with fail
  rw [Try.zeroP7, ← HW1.out]
  refine RP.out.mono ?_
  rintro e w2 ⟨rfl, hb2⟩
  have HSZ := Lib.hid (show (Try.prog.info? 95).map (·.size) = some Try.zeroCells95.size by rw [Try.pairSize, Try.zeroPSize])
  have HB2 := Lib.hid (HB1.out.trans (hb2.mono HB1.out.size))
  have HR2 := Lib.hid ((hb2.block _ (lt_of_row HR1.out)).trans HR1.out)
  have HR5 := Lib.hid (show (w2.alloc (.cells Try.zeroCells95 95)).heap[w.heap.size]? = some (.cells noM.cells.toArray 34 (0, 0)) from (Below.heap_alloc _ _ _ (lt_of_row HR2.out)).trans HR2.out)
  have HB5 := Lib.hid (show Below w.heap.size w (w2.alloc (.cells Try.zeroCells95 95)) from HB2.out.alloc HB2.out.size _)
  clear hb2 RP
  go_wp2_with (first
    | (with_reducible show wpList _ _ _ _ _ _; refine wpList_store_new rfl 95 (.tmp 6) (.tmp 14) rfl 95 Try.zeroCells95 Try.zeroCells95 rfl rfl HSZ.out rfl Try.zeroPOnes ?_)
    | (with_reducible show wpList _ _ _ _ _ _; refine wpList_store_whole rfl 34 (.tmp 4) (.tmp 18) rfl w.heap.size 34 noM.cells.toArray #[Value.int .u64 0, .int .u64 0, .int .u64 0, .int .u64 0, .int .u64 0, .int .u64 0, .int .u64 0] rfl rfl HR5.out HSM7.out (by kernel_rfl) (by kernel_rfl) ?_))
  refine bodyPost_ret (results2_cell_row rfl _ _ w.heap.size 34 _ (0, 0) _ (.int .i64 c) rfl rfl (setRow_heap _ _ _ _ _ (0, 0) HR5.out) Try.underlying34 rfl HSM7.out) rfl ⟨by rw [Try.zeroP7], below_setRow HB5.out (Nat.le_refl _) _⟩
end Go.Proofs.Ytgbmkolpdnenlaa.Dk
