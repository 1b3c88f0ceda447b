/- The SHA-256 of parts: Of; and Link. -/
import Derived.Test.YtejbookaflnpeabDoorHt
import Derived.Test.YtejbookaflnpeabDoorCw
namespace Go.Proofs.YtejbookaflnpeabDoor
open Go Go.RowKit
set_option linter.unusedVariables false

theorem bvs_one (l : List UInt8) : ∀ v ∈ bvs l, v.oneCell' = true := by
  intro v hv
  obtain ⟨_, _, rfl⟩ := List.mem_map.1 hv
  rfl
theorem Hs.below {w w' : World} {b B : Nat} (h : Hs w w' b) (hB : B ≤ w.heap.size) (hb : B ≤ b) : Below B w w' := ⟨h.os, h.tape, h.output, h.size, fun g hg => h.block g (by omega) (by omega)⟩
def shaL (S K : List Nat) (xs : List UInt8) : List UInt8 := shaOf S K (feed S K H0 xs)
theorem shaL_length (S K : List Nat) (xs : List UInt8) : (shaL S K xs).length = 32 := shaOf_length _ _ _
set_option maxRecDepth 100000 in
set_option maxHeartbeats 2000000 in
theorem of_any {w : World} {v : Value} {L : List (Value × List UInt8)} (h : Pt w v L) {S K : List Nat} (ht : Tables w S K) (hn : (bytesOf L).length < 1152921504606846976) (hL : L.length < 9223372036854775808) :
    Calls Tryd.prog 12 #[v] w fun e w' => e = .returned (.agg (bvs (shaL S K (bytesOf L))).toArray) ∧ Below w.heap.size w w' := by
  obtain ⟨w2, hw2⟩ : ∃ w2, w2 = (w.alloc (.cells #[.int .u8 0, .int .u8 0, .int .u8 0, .int .u8 0, .int .u8 0, .int .u8 0, .int .u8 0, .int .u8 0, .int .u8 0, .int .u8 0, .int .u8 0, .int .u8 0, .int .u8 0, .int .u8 0, .int .u8 0, .int .u8 0, .int .u8 0, .int .u8 0, .int .u8 0, .int .u8 0, .int .u8 0, .int .u8 0, .int .u8 0, .int .u8 0, .int .u8 0, .int .u8 0, .int .u8 0, .int .u8 0, .int .u8 0, .int .u8 0, .int .u8 0, .int .u8 0] 43)).alloc (.cells Z73 54) := ⟨_, rfl⟩
  have B2 : Below w.heap.size w w2 := by
    rw [hw2]
    exact ((Below.refl _ _).alloc (Nat.le_refl _) _).alloc (by simp) _
  have e2 : w2.heap[w.heap.size + 1]? = some (.cells Z73 54 (0, 0)) := by
    have := heap_alloc_new (w.alloc (.cells #[.int .u8 0, .int .u8 0, .int .u8 0, .int .u8 0, .int .u8 0, .int .u8 0, .int .u8 0, .int .u8 0, .int .u8 0, .int .u8 0, .int .u8 0, .int .u8 0, .int .u8 0, .int .u8 0, .int .u8 0, .int .u8 0, .int .u8 0, .int .u8 0, .int .u8 0, .int .u8 0, .int .u8 0, .int .u8 0, .int .u8 0, .int .u8 0, .int .u8 0, .int .u8 0, .int .u8 0, .int .u8 0, .int .u8 0, .int .u8 0, .int .u8 0, .int .u8 0] 43)) (.cells Z73 54)
    rw [World.size_alloc] at this
    rw [hw2]
    exact this
  have z2 : w2.heap[w.heap.size]? = some (.cells Z32.toArray 43 (0, 0)) := by
    rw [hw2, Below.heap_alloc _ _ _ (by simp), Z32_eq]
    exact heap_alloc_new w _
  have n2 : w2.heap.size = w.heap.size + 2 := by rw [hw2]; simp
  have hE2 : HashAt w2 (w.heap.size + 1) H0.G H0.B H0.n := ⟨rfl, rfl, e2⟩
  have T2 := ht.below B2 (Nat.le_refl _)
  have TL := ht.lt
  have P2 := h.parts (b := w.heap.size + 1) B2 (Nat.le_refl _) (by omega)
  have A := Lib.hid (add_any hE2 T2 (by omega) (by omega) P2 (by simp [H0]; omega) hL)
  have N2 := Lib.hid n2
  have Z2 := Lib.hid z2
  have HT2 := Lib.hid T2
  have HW2 := Lib.hid hw2
  have zc := zero_hash
  obtain ⟨ao, c, rfl, _⟩ := h
  clear n2 z2 T2 e2 hE2 P2 ht hw2
  go_enter Tryd.func12, Tryd.ntmps12
  go_wp2_with fail
  rw [← HW2.out]
  refine A.out.mono ?_
  rintro e w3 ⟨rfl, h3, R3⟩
  have n2 := N2.out
  have SM := Lib.hid (sum_any h3 (HT2.out.hs R3 (by omega) (by omega)) (by rw [feed_n]; simp [H0]; omega))
  have z3 := (R3.block _ (by omega) (by omega)).trans Z2.out
  have B3 := B2.trans (R3.below (B := w.heap.size) (by omega) (by omega))
  have n3 := R3.size
  have Z3 := Lib.hid z3
  clear A HW2 z3 h3 R3 n2 Z2
  go_wp2_with fail
  refine SM.out.mono ?_
  rintro e w4 ⟨rfl, B4⟩
  have n2 := N2.out
  have z4 := Lib.hid ((B4.block _ (by omega)).trans Z3.out)
  have B4' := B3.trans (B4.mono (by omega))
  have hol : (bvs (shaL S K (bytesOf L))).toArray.size = 32 := by rw [List.size_toArray, bvs_length, shaL_length]
  have sz := Lib.hid (show (Tryd.prog.info? 43).map (·.size) = some (bvs (shaL S K (bytesOf L))).toArray.size by rw [hol]; kernel_rfl)
  have so := Lib.hid (show Z32.toArray.size = (bvs (shaL S K (bytesOf L))).toArray.size by rw [hol]; rfl)
  have s1 := Lib.hid (show (bvs (shaL S K (bytesOf L))).toArray.all (·.oneCell') = true from all_oneCell_toArray (bvs_one _))
  unfold shaL at *
  clear n2 SM B4 Z3 hol
  go_wp2_with (refine wpList_store_all rfl 43 (.tmp 2) (.tmp 6) rfl w.heap.size 43 Z32.toArray _ rfl rfl z4.out sz.out so.out s1.out ?_)
  refine bodyPost_ret (results_cell_row rfl _ _ w.heap.size 43 _ (0, 0) _ rfl (setRow_heap w4 _ _ _ _ (0, 0) z4.out) Tryd.underlying43 rfl sz.out) rfl ?_
  exact ⟨rfl, below_setRow B4' (Nat.le_refl _) _⟩
end Go.Proofs.YtejbookaflnpeabDoor
