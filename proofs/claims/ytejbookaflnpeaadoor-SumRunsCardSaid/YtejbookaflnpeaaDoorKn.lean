/- The head of the sum laws: known. -/
import Derived.Test.YtejbookaflnpeaaDoorKc
import Derived.Lib.SlBytesConst
namespace Go.Proofs.YtejbookaflnpeaaDoor
open Go Go.RowKit
set_option linter.unusedVariables false
theorem conv_bytes (w : World) (C : Array Value) (n c : Nat) : (Go.convert 22 22 (.slice (some ⟨w.heap.size, 0, none⟩) n c)).run Tryd.prog (w.alloc (.cells C 5)) = .ok (.slice (some ⟨w.heap.size, 0, none⟩) n c) (w.alloc (.cells C 5 (C.size, C.size + 1))) := Lib.run_convert_bytes_const (P := Tryd.prog) w 22 5 C n c Tryd.underlying22 Tryd.underlying5
theorem index_sum (cs : Array Value) (i : Nat) (u : Value) (hi : i < 32) (hs : cs.size = 32) (h : cs[i]? = some u) (k : IntKind) (w : World) : (Instr.index 29 (.agg cs) (.int k (i : Int))).run Tryd.prog w = .ok u w := by
  have hu : Tryd.prog.underlying 29 = some (.array 32 5) := by kernel_rfl
  obtain ⟨i0, hi0, hz0, hz1, hz2⟩ := info_parts Tryd.info5
  have hi' : i < cs.size := by omega
  have hv : cs[i] = u := by rw [Array.getElem?_eq_getElem hi'] at h; exact Option.some.inj h
  simp [Instr.index, run_underlying hu, asIntOf, go_sem, hi, sizeOf, typeInfo, hi0, hz1, hv, hi']
theorem bvs_lit (l : List UInt8) (i : Nat) (h : i < l.length) : (bvs l).toArray[i]? = some (.int .u8 ((l.getD i 0).toNat : Int)) := by
  simp [bvs, bv, List.getD, h]
set_option maxRecDepth 100000 in
set_option maxHeartbeats 1000000 in
theorem known_any {w : World} (ht : Tables w S0 K0) : Calls Tryd.prog 15 #[] w fun e w' => e = .returned (.bool true) ∧ Below w.heap.size w w' := by
  have HT := Lib.hid ht
  have cv := conv_bytes
  obtain ⟨w2, hw2⟩ : ∃ w2, w2 = (w.alloc (.cells #[.int .u8 49, .int .u8 50, .int .u8 51, .int .u8 52, .int .u8 53, .int .u8 54, .int .u8 55, .int .u8 56, .int .u8 57] 5 (9, 10))).alloc (.cells #[.slice (some ⟨w.heap.size, 0, none⟩) 9 9] 22) := ⟨_, rfl⟩
  have B2 : Below w.heap.size w w2 := by
    rw [hw2]
    exact ((Below.refl _ _).alloc (Nat.le_refl _) _).alloc (by simp) _
  have r1 : w2.heap[w.heap.size]? = some (.cells (bvs [49, 50, 51, 52, 53, 54, 55, 56, 57]).toArray 5 (9, 10)) := by
    rw [hw2, Below.heap_alloc _ _ _ (by simp)]
    exact heap_alloc_new w _
  have r2 : w2.heap[w.heap.size + 1]? = some (.cells #[.slice (some ⟨w.heap.size, 0, none⟩) 9 9] 22 (0, 0)) := by
    have := heap_alloc_new (w.alloc (.cells #[.int .u8 49, .int .u8 50, .int .u8 51, .int .u8 52, .int .u8 53, .int .u8 54, .int .u8 55, .int .u8 56, .int .u8 57] 5 (9, 10))) (.cells #[.slice (some ⟨w.heap.size, 0, none⟩) 9 9] 22)
    rw [World.size_alloc] at this
    rw [hw2]
    exact this
  have C := crc_any (Pt.one r2 (Bs.ofRow rfl (Nat.le_refl _) r1)) (by simp) (by simp)
  rw [show bytesOf [(Value.slice (some ⟨w.heap.size, 0, none⟩) 9 9, ([49, 50, 51, 52, 53, 54, 55, 56, 57] : List UInt8))] = [49, 50, 51, 52, 53, 54, 55, 56, 57] from rfl, crc_known] at C
  have HC := Lib.hid C
  have HW2 := Lib.hid hw2
  clear C r1 r2 hw2 ht
  go_enter Tryd.func15, Tryd.ntmps15
  go_wp2_with fail
  rw [← HW2.out]
  refine HC.out.mono ?_
  rintro e w' ⟨rfl, rfl⟩
  obtain ⟨w4, hw4⟩ : ∃ w4, w4 = (w2.alloc (.cells #[.int .u8 97, .int .u8 98, .int .u8 99] 5 (3, 4))).alloc (.cells #[.slice (some ⟨w2.heap.size, 0, none⟩) 3 3] 22) := ⟨_, rfl⟩
  have B4 : Below w2.heap.size w2 w4 := by
    rw [hw4]
    exact ((Below.refl _ _).alloc (Nat.le_refl _) _).alloc (by simp) _
  have r1 : w4.heap[w2.heap.size]? = some (.cells (bvs [97, 98, 99]).toArray 5 (3, 4)) := by
    rw [hw4, Below.heap_alloc _ _ _ (by simp)]
    exact heap_alloc_new w2 _
  have r2 : w4.heap[w2.heap.size + 1]? = some (.cells #[.slice (some ⟨w2.heap.size, 0, none⟩) 3 3] 22 (0, 0)) := by
    have := heap_alloc_new (w2.alloc (.cells #[.int .u8 97, .int .u8 98, .int .u8 99] 5 (3, 4))) (.cells #[.slice (some ⟨w2.heap.size, 0, none⟩) 3 3] 22)
    rw [World.size_alloc] at this
    rw [hw4]
    exact this
  have z2 := B2.size
  have T4 := (HT.out.below B2 (Nat.le_refl _)).below B4 (Nat.le_refl _)
  have O := of_any (Pt.one r2 (Bs.ofRow rfl (Nat.le_refl _) r1)) T4 (by simp [bytesOf]) (by simp)
  rw [show bytesOf [(Value.slice (some ⟨w2.heap.size, 0, none⟩) 3 3, ([97, 98, 99] : List UInt8))] = [97, 98, 99] from rfl] at O
  have B4' := B2.trans (B4.mono z2)
  have HO := Lib.hid O
  have HW4 := Lib.hid hw4
  have HT4 := Lib.hid T4
  clear O r1 r2 hw4 T4 HC HW2 B4 B2
  go_wp2_with fail
  rw [← HW4.out]
  refine HO.out.mono ?_
  rintro e w5 ⟨rfl, B5⟩
  have ix := index_sum (bvs (shaL S0 K0 [97, 98, 99])).toArray 0 (.int .u8 186) (by decide) (by rw [List.size_toArray, bvs_length, shaL_length]) (by
    rw [bvs_lit _ _ (by rw [shaL_length]; decide)]
    unfold shaL
    rw [sha_R S0 K0 rfl S0_lt, sha_abc]
    rfl)
  have ix' : ∀ (w : World), (Instr.index 29 (.agg (bvs (shaL S0 K0 [97, 98, 99])).toArray) (.int .i64 0)).run Tryd.prog w = .ok (.int .u8 186) w := fun w => by simpa using ix .i64 w
  have T5 := HT4.out.below B5 (Nat.le_refl _)
  have O := of_any (Pt.none w5) T5 (by decide) (by decide)
  have B5' := B4'.trans (B5.mono B4'.size)
  have HO5 := Lib.hid O
  have HT5 := Lib.hid T5
  clear ix O T5 HO HW4 HT4 B5 B4'
  go_wp2_with fail
  refine HO5.out.mono ?_
  rintro e w6 ⟨rfl, B6⟩
  have ix := index_sum (bvs (shaL S0 K0 (bytesOf []))).toArray 31 (.int .u8 85) (by decide) (by rw [List.size_toArray, bvs_length, shaL_length]) (by
    rw [bvs_lit _ _ (by rw [shaL_length]; decide)]
    unfold shaL
    rw [sha_R S0 K0 rfl S0_lt]
    show some (Value.int .u8 (((shaR S0 K0 []).getD 31 0).toNat : Int)) = _
    rw [sha_nil]
    rfl)
  have ix6 : ∀ (w : World), (Instr.index 29 (.agg (bvs (shaL S0 K0 (bytesOf []))).toArray) (.int .i64 31)).run Tryd.prog w = .ok (.int .u8 85) w := fun w => by simpa using ix .i64 w
  have T6 := HT5.out.below B6 (Nat.le_refl _)
  have B6' := B5'.trans (B6.mono B5'.size)
  obtain ⟨w7, hw7⟩ : ∃ w7, w7 = w6.alloc (.cells #[.slice none 0 0] 22) := ⟨_, rfl⟩
  have B7 : Below w6.heap.size w6 w7 := by rw [hw7]; exact (Below.refl _ _).alloc (Nat.le_refl _) _
  have r7 : w7.heap[w6.heap.size]? = some (.cells #[.slice none 0 0] 22 (0, 0)) := by rw [hw7]; exact heap_alloc_new w6 _
  have C := chain_any (first := List.replicate 32 0) rfl (Pt.one r7 (Bs.none w7)) (T6.below B7 (Nat.le_refl _)) (by simp) (by simp)
  rw [show (bvs (List.replicate 32 0)).toArray = _ from Z32_eq] at C
  have HC := Lib.hid C
  have HW7 := Lib.hid hw7
  have B7' := B6'.trans (B7.mono B6'.size)
  clear ix C hw7 r7 T6 HT5 HO5 B6 B7 B5'
  go_wp2_with fail
  rw [← HW7.out]
  refine HC.out.mono ?_
  rintro e w8 ⟨g, rfl, hg, r8, B8⟩
  have B8' := B7'.trans (B8.mono B7'.size)
  clear HC HW7 B8 B7' B6' ix6 ix'
  go_wp2_with fail
  go_ret
  exact ⟨rfl, B8'⟩
end Go.Proofs.YtejbookaflnpeaaDoor
