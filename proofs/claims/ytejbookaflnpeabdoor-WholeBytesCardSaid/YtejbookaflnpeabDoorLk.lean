/- Link: a sum behind another one. -/
import Derived.Test.YtejbookaflnpeabDoorOf
namespace Go.Proofs.YtejbookaflnpeabDoor
open Go Go.RowKit
set_option linter.unusedVariables false

/-- A row of a block as bytes. -/
theorem Bs.ofRow {w : World} {g t c : Nat} {l : List UInt8} {k : Nat} {fz : Nat × Nat} (hk : l.length = k) (hc : k ≤ c) (hg : w.heap[g]? = some (.cells (bvs l).toArray t fz)) : Bs w (.slice (some ⟨g, 0, none⟩) k c) l := by
  subst hk
  refine ⟨some ⟨g, 0, none⟩, c, rfl, hc, (by intro e; cases e), fun a ha => ?_⟩
  cases ha
  intro j u hu
  rw [Addr.add_mid, Nat.zero_add, cell_of_row w g j _ _ _ hg]
  simpa using hu
theorem Bs.setRow {w w' : World} {v : Value} {xs : List UInt8} (h : Bs w v xs) (hk : ∀ k, k < w.heap.size → w'.heap[k]? = w.heap[k]?) : Bs w' v xs := by
  obtain ⟨ao, c, hv, hc, hno, h1⟩ := h
  refine ⟨ao, c, hv, hc, hno, fun a ha j u hu => ?_⟩
  have h2 := h1 a ha j u hu
  rw [World.cell?_of_block (w := w) (hk _ (World.block_lt_of_cell? w _ h2))]
  exact h2
/-- Two slices in a new row. -/
theorem Pt.two {w : World} {g t : Nat} {v1 v2 : Value} {x1 x2 : List UInt8} (hg : w.heap[g]? = some (.cells #[v1, v2] t (0, 0))) (h1 : Bs w v1 x1) (h2 : Bs w v2 x2) : Pt w (.slice (some ⟨g, 0, none⟩) 2 2) [(v1, x1), (v2, x2)] := by
  refine ⟨some ⟨g, 0, none⟩, 2, rfl, (by intro e; cases e), fun a ha => ?_⟩
  cases ha
  intro j p hj
  match j, hj with
  | 0, hj =>
    obtain rfl : (v1, x1) = p := by simpa using hj
    refine ⟨?_, h1⟩
    rw [Addr.add_mid, Nat.zero_add, cell_of_row w g 0 _ _ _ hg]; rfl
  | 1, hj =>
    obtain rfl : (v2, x2) = p := by simpa using hj
    refine ⟨?_, h2⟩
    rw [Addr.add_mid, Nat.zero_add, cell_of_row w g 1 _ _ _ hg]; rfl
  | j + 2, hj => simp at hj
theorem Pt.one {w : World} {g t : Nat} {v1 : Value} {x1 : List UInt8} (hg : w.heap[g]? = some (.cells #[v1] t (0, 0))) (h1 : Bs w v1 x1) : Pt w (.slice (some ⟨g, 0, none⟩) 1 1) [(v1, x1)] := by
  refine ⟨some ⟨g, 0, none⟩, 1, rfl, (by intro e; cases e), fun a ha => ?_⟩
  cases ha
  intro j p hj
  match j, hj with
  | 0, hj =>
    obtain rfl : (v1, x1) = p := by simpa using hj
    refine ⟨?_, h1⟩
    rw [Addr.add_mid, Nat.zero_add, cell_of_row w g 0 _ _ _ hg]; rfl
  | j + 1, hj => simp at hj
theorem Pt.none (w : World) : Pt w (.slice none 0 0) [] := ⟨Option.none, 0, rfl, fun _ => rfl, by intro a e; cases e⟩
theorem Bs.none (w : World) : Bs w (.slice none 0 0) [] := ⟨Option.none, 0, rfl, Nat.le_refl _, fun _ => rfl, by intro a e; cases e⟩
/-- The whole of a sum as a slice. -/
theorem slice32_all (g : Nat) (w : World) : (Instr.sliceAt 43 (.pointer (some ⟨g, 0, none⟩)) none none none).run Tryd.prog w = .ok (.slice (some ⟨g, 0, none⟩) 32 32) w := by
  have h := run_sliceAt_array_all (P := Tryd.prog) (a := ⟨g, 0, none⟩) w 43 (by kernel_rfl)
  obtain ⟨i0, hi, hz0, hz1, hz2⟩ := info_parts Tryd.info5
  have he : Tryd.prog.elem 43 = 5 := by kernel_rfl
  have hsz : (sizeOf 5).run Tryd.prog w = .ok 1 w := by simp [sizeOf, typeInfo, hi, hz1]
  rw [h]
  first
    | (rw [Tryd.len32, he, hsz]; simp [slicedAt, Addr.add_mid])
    | (rw [Tryd.len32, he, hsz]; simp [slicedAt]; rfl)
set_option maxRecDepth 100000 in
set_option maxHeartbeats 2000000 in
theorem link_any {w : World} {v : Value} {pv xs : List UInt8} (hp : pv.length = 32) (h : Bs w v xs) {S K : List Nat} (ht : Tables w S K) (hn : xs.length < 1152921504606846900) :
    Calls Tryd.prog 18 #[.agg (bvs pv).toArray, v] w fun e w' => e = .returned (.agg (bvs (shaL S K (pv ++ xs))).toArray) ∧ Below w.heap.size w w' := by
  have TL := ht.lt
  have sl := slice32_all
  obtain ⟨ao, c, rfl, hrest⟩ := id h
  obtain ⟨w1, hw1⟩ : ∃ w1, w1 = w.alloc (.cells (bvs pv).toArray 43) := ⟨_, rfl⟩
  obtain ⟨w2, hw2⟩ : ∃ w2, w2 = w1.alloc (.cells Z32.toArray 43) := ⟨_, rfl⟩
  obtain ⟨w3, hw3⟩ : ∃ w3, w3 = w2.alloc (.cells #[.slice (some ⟨w.heap.size, 0, none⟩) 32 32, .slice ao xs.length c] 41) := ⟨_, rfl⟩
  have n1 : w1.heap.size = w.heap.size + 1 := by rw [hw1]; simp
  have n2 : w2.heap.size = w.heap.size + 2 := by rw [hw2]; simp; omega
  have n3 : w3.heap.size = w.heap.size + 3 := by rw [hw3]; simp; omega
  have b1 : w3.heap[w.heap.size]? = some (.cells (bvs pv).toArray 43 (0, 0)) := by
    rw [hw3, Below.heap_alloc _ _ _ (by omega), hw2, Below.heap_alloc _ _ _ (by omega), hw1]
    exact heap_alloc_new w _
  have b2 : w3.heap[w.heap.size + 1]? = some (.cells Z32.toArray 43 (0, 0)) := by
    rw [hw3, Below.heap_alloc _ _ _ (by omega), hw2, ← n1]
    exact heap_alloc_new w1 _
  have b3 : w3.heap[w.heap.size + 2]? = some (.cells #[.slice (some ⟨w.heap.size, 0, none⟩) 32 32, .slice ao xs.length c] 41 (0, 0)) := by
    rw [hw3, ← n2]
    exact heap_alloc_new w2 _
  have B3 : Below w.heap.size w w3 := by
    rw [hw3, hw2, hw1]
    exact (((Below.refl _ _).alloc (Nat.le_refl _) _).alloc (by simp) _).alloc (by simp; omega) _
  have P := Pt.two b3 (Bs.ofRow hp (Nat.le_refl _) b1) (h.below B3 (Nat.le_refl _))
  have O := of_any P (ht.below B3 (Nat.le_refl _)) (by simp [bytesOf]; omega) (by simp)
  rw [show bytesOf [(Value.slice (some ⟨w.heap.size, 0, none⟩) 32 32, pv), (Value.slice ao xs.length c, xs)] = pv ++ xs by simp [bytesOf]] at O
  have HO := Lib.hid O
  have HB2 := Lib.hid b2
  have HN3 := Lib.hid n3
  have HW := Lib.hid (show w3 = ((w.alloc (.cells (bvs pv).toArray 43)).alloc (.cells #[.int .u8 0, .int .u8 0, .int .u8 0, .int .u8 0, .int .u8 0, .int .u8 0, .int .u8 0, .int .u8 0, .int .u8 0, .int .u8 0, .int .u8 0, .int .u8 0, .int .u8 0, .int .u8 0, .int .u8 0, .int .u8 0, .int .u8 0, .int .u8 0, .int .u8 0, .int .u8 0, .int .u8 0, .int .u8 0, .int .u8 0, .int .u8 0, .int .u8 0, .int .u8 0, .int .u8 0, .int .u8 0, .int .u8 0, .int .u8 0, .int .u8 0, .int .u8 0] 43)).alloc (.cells #[.slice (some ⟨w.heap.size, 0, none⟩) 32 32, .slice ao xs.length c] 41) by rw [hw3, hw2, hw1, Z32_eq])
  clear O P b1 b2 b3 n1 n2 n3 hw1 hw2 hw3 hrest h hp
  clear w1 w2
  go_enter Tryd.func18, Tryd.ntmps18
  go_wp2_with fail
  rw [← HW.out]
  refine HO.out.mono ?_
  rintro e w4 ⟨rfl, B4⟩
  have n3 := HN3.out
  have z4 := Lib.hid ((B4.block _ (by omega)).trans HB2.out)
  have B4' := B3.trans (B4.mono (by omega))
  have hol : (bvs (shaL S K (pv ++ xs))).toArray.size = 32 := by rw [List.size_toArray, bvs_length, shaL_length]
  have sz := Lib.hid (show (Tryd.prog.info? 43).map (·.size) = some (bvs (shaL S K (pv ++ xs))).toArray.size by rw [hol]; kernel_rfl)
  have so := Lib.hid (show Z32.toArray.size = (bvs (shaL S K (pv ++ xs))).toArray.size by rw [hol]; rfl)
  have s1 := Lib.hid (show (bvs (shaL S K (pv ++ xs))).toArray.all (·.oneCell') = true from all_oneCell_toArray (bvs_one _))
  clear n3 HO B4 HB2 hol HW
  go_wp2_with (refine wpList_store_all rfl 43 (.tmp 4) (.tmp 8) rfl (w.heap.size + 1) 43 Z32.toArray _ rfl rfl z4.out sz.out so.out s1.out ?_)
  refine bodyPost_ret (results_cell_row rfl _ _ (w.heap.size + 1) 43 _ (0, 0) _ rfl (setRow_heap w4 _ _ _ _ (0, 0) z4.out) Tryd.underlying43 rfl sz.out) rfl ?_
  exact ⟨rfl, below_setRow B4' (by omega) _⟩
end Go.Proofs.YtejbookaflnpeabDoor
