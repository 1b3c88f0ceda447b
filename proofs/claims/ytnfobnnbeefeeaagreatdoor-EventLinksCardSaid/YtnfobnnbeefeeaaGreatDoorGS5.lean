/- The SHA-256 of parts: Of; and Link. -/
import Derived.Test.YtnfobnnbeefeeaaGreatDoorGS4
import Derived.Laws.IdiomCopy
import Derived.Laws.MakeOwn
import Derived.Lib.SlBytesConst
namespace Go.Proofs.YtnfobnnbeefeeaaGreatDoor.Sm
open Go Go.RowKit
set_option linter.unusedVariables false

theorem bvs_one (l : List UInt8) : ∀ v ∈ bvs l, v.oneCell' = true := by
  intro v hv
  obtain ⟨_, _, rfl⟩ := List.mem_map.1 hv
  rfl
theorem Hs.below {w w' : World} {b B : Nat} (h : Hs w w' b) (hB : B ≤ w.heap.size) (hb : B ≤ b) : Below B w w' := ⟨h.os, h.tape, h.output, h.size, fun g hg => h.block g (by omega) (by omega)⟩
def shaL (S K : List Nat) (xs : List UInt8) : List UInt8 := shaOf S K (feed S K H0 xs)
theorem shaL_length (S K : List Nat) (xs : List UInt8) : (shaL S K xs).length = 32 := shaOf_length _ _ _
set_option maxRecDepth 100000 in
set_option maxHeartbeats 2000000 in
theorem of_any {w : World} {v : Value} {L : List (Value × List UInt8)} (h : Pt w v L) {S K : List Nat} (ht : Tables w S K) (hn : (bytesOf L).length < 1152921504606846976) (hL : L.length < 9223372036854775808) :
    Calls Tryz.prog 100 #[v] w fun e w' => e = .returned (.agg (bvs (shaL S K (bytesOf L))).toArray) ∧ Below w.heap.size w w' := by
  obtain ⟨w2, hw2⟩ : ∃ w2, w2 = (w.alloc (.cells #[.int .u8 0, .int .u8 0, .int .u8 0, .int .u8 0, .int .u8 0, .int .u8 0, .int .u8 0, .int .u8 0, .int .u8 0, .int .u8 0, .int .u8 0, .int .u8 0, .int .u8 0, .int .u8 0, .int .u8 0, .int .u8 0, .int .u8 0, .int .u8 0, .int .u8 0, .int .u8 0, .int .u8 0, .int .u8 0, .int .u8 0, .int .u8 0, .int .u8 0, .int .u8 0, .int .u8 0, .int .u8 0, .int .u8 0, .int .u8 0, .int .u8 0, .int .u8 0] 23)).alloc (.cells Z73 154) := ⟨_, rfl⟩
  have B2 : Below w.heap.size w w2 := by
    rw [hw2]
    exact ((Below.refl _ _).alloc (Nat.le_refl _) _).alloc (by simp) _
  have e2 : w2.heap[w.heap.size + 1]? = some (.cells Z73 154 (0, 0)) := by
    have := heap_alloc_new (w.alloc (.cells #[.int .u8 0, .int .u8 0, .int .u8 0, .int .u8 0, .int .u8 0, .int .u8 0, .int .u8 0, .int .u8 0, .int .u8 0, .int .u8 0, .int .u8 0, .int .u8 0, .int .u8 0, .int .u8 0, .int .u8 0, .int .u8 0, .int .u8 0, .int .u8 0, .int .u8 0, .int .u8 0, .int .u8 0, .int .u8 0, .int .u8 0, .int .u8 0, .int .u8 0, .int .u8 0, .int .u8 0, .int .u8 0, .int .u8 0, .int .u8 0, .int .u8 0, .int .u8 0] 23)) (.cells Z73 154)
    rw [World.size_alloc] at this
    rw [hw2]
    exact this
  have z2 : w2.heap[w.heap.size]? = some (.cells Z32.toArray 23 (0, 0)) := by
    rw [hw2, Below.heap_alloc _ _ _ (by simp), Z32_eq]
    exact heap_alloc_new w _
  have n2 : w2.heap.size = w.heap.size + 2 := by rw [hw2]; simp
  have hE2 : HashAt w2 (w.heap.size + 1) H0.G H0.B H0.n := ⟨rfl, rfl, e2⟩
  have T2 := ht.below B2 (Nat.le_refl _)
  have TL := ht.lt
  have P2 := h.parts (b := w.heap.size + 1) B2 (Nat.le_refl _) (by omega)
  have A := Lib.hid (add_any hE2 T2 (by omega) (by omega) P2 (by simp [H0]; omega) hL)
  have N2 := Lib.hid n2
  have Z2 := Lib.hid z2
  have HT2 := Lib.hid T2
  have HW2 := Lib.hid hw2
  have zc := zero_hash
  obtain ⟨ao, c, rfl, _⟩ := h
  clear n2 z2 T2 e2 hE2 P2 ht hw2
  go_enter Tryz.func100, Tryz.ntmps100
  go_wp2_with fail
  rw [← HW2.out]
  refine A.out.mono ?_
  rintro e w3 ⟨rfl, h3, R3⟩
  have n2 := N2.out
  have SM := Lib.hid (sum_any h3 (HT2.out.hs R3 (by omega) (by omega)) (by rw [feed_n]; simp [H0]; omega))
  have z3 := (R3.block _ (by omega) (by omega)).trans Z2.out
  have B3 := B2.trans (R3.below (B := w.heap.size) (by omega) (by omega))
  have n3 := R3.size
  have Z3 := Lib.hid z3
  clear A HW2 z3 h3 R3 n2 Z2
  go_wp2_with fail
  refine SM.out.mono ?_
  rintro e w4 ⟨rfl, B4⟩
  have n2 := N2.out
  have z4 := Lib.hid ((B4.block _ (by omega)).trans Z3.out)
  have B4' := B3.trans (B4.mono (by omega))
  have hol : (bvs (shaL S K (bytesOf L))).toArray.size = 32 := by rw [List.size_toArray, bvs_length, shaL_length]
  have sz := Lib.hid (show (Tryz.prog.info? 23).map (·.size) = some (bvs (shaL S K (bytesOf L))).toArray.size by rw [hol]; kernel_rfl)
  have so := Lib.hid (show Z32.toArray.size = (bvs (shaL S K (bytesOf L))).toArray.size by rw [hol]; rfl)
  have s1 := Lib.hid (show (bvs (shaL S K (bytesOf L))).toArray.all (·.oneCell') = true from all_oneCell_toArray (bvs_one _))
  unfold shaL at *
  clear n2 SM B4 Z3 hol
  go_wp2_with (refine wpList_store_all rfl 23 (.tmp 2) (.tmp 6) rfl w.heap.size 23 Z32.toArray _ rfl rfl z4.out sz.out so.out s1.out ?_)
  refine bodyPost_ret (results_cell_row rfl _ _ w.heap.size 23 _ (0, 0) _ rfl (setRow_heap w4 _ _ _ _ (0, 0) z4.out) Tryz.underlying23 rfl sz.out) rfl ?_
  exact ⟨rfl, below_setRow B4' (Nat.le_refl _) _⟩
end Go.Proofs.YtnfobnnbeefeeaaGreatDoor.Sm
/- Link: a sum behind another one. -/
namespace Go.Proofs.YtnfobnnbeefeeaaGreatDoor.Sm
open Go Go.RowKit
set_option linter.unusedVariables false

/-- A row of a block as bytes. -/
theorem Bs.ofRow {w : World} {g t c : Nat} {l : List UInt8} {k : Nat} {fz : Nat × Nat} (hk : l.length = k) (hc : k ≤ c) (hg : w.heap[g]? = some (.cells (bvs l).toArray t fz)) : Bs w (.slice (some ⟨g, 0, none⟩) k c) l := by
  subst hk
  refine ⟨some ⟨g, 0, none⟩, c, rfl, hc, (by intro e; cases e), fun a ha => ?_⟩
  cases ha
  intro j u hu
  rw [Addr.add_mid, Nat.zero_add, cell_of_row w g j _ _ _ hg]
  simpa using hu
theorem Bs.setRow {w w' : World} {v : Value} {xs : List UInt8} (h : Bs w v xs) (hk : ∀ k, k < w.heap.size → w'.heap[k]? = w.heap[k]?) : Bs w' v xs := by
  obtain ⟨ao, c, hv, hc, hno, h1⟩ := h
  refine ⟨ao, c, hv, hc, hno, fun a ha j u hu => ?_⟩
  have h2 := h1 a ha j u hu
  rw [World.cell?_of_block (w := w) (hk _ (World.block_lt_of_cell? w _ h2))]
  exact h2
/-- Two slices in a new row. -/
theorem Pt.two {w : World} {g t : Nat} {v1 v2 : Value} {x1 x2 : List UInt8} (hg : w.heap[g]? = some (.cells #[v1, v2] t (0, 0))) (h1 : Bs w v1 x1) (h2 : Bs w v2 x2) : Pt w (.slice (some ⟨g, 0, none⟩) 2 2) [(v1, x1), (v2, x2)] := by
  refine ⟨some ⟨g, 0, none⟩, 2, rfl, (by intro e; cases e), fun a ha => ?_⟩
  cases ha
  intro j p hj
  match j, hj with
  | 0, hj =>
    obtain rfl : (v1, x1) = p := by simpa using hj
    refine ⟨?_, h1⟩
    rw [Addr.add_mid, Nat.zero_add, cell_of_row w g 0 _ _ _ hg]; rfl
  | 1, hj =>
    obtain rfl : (v2, x2) = p := by simpa using hj
    refine ⟨?_, h2⟩
    rw [Addr.add_mid, Nat.zero_add, cell_of_row w g 1 _ _ _ hg]; rfl
  | j + 2, hj => simp at hj
theorem Pt.one {w : World} {g t : Nat} {v1 : Value} {x1 : List UInt8} (hg : w.heap[g]? = some (.cells #[v1] t (0, 0))) (h1 : Bs w v1 x1) : Pt w (.slice (some ⟨g, 0, none⟩) 1 1) [(v1, x1)] := by
  refine ⟨some ⟨g, 0, none⟩, 1, rfl, (by intro e; cases e), fun a ha => ?_⟩
  cases ha
  intro j p hj
  match j, hj with
  | 0, hj =>
    obtain rfl : (v1, x1) = p := by simpa using hj
    refine ⟨?_, h1⟩
    rw [Addr.add_mid, Nat.zero_add, cell_of_row w g 0 _ _ _ hg]; rfl
  | j + 1, hj => simp at hj
theorem Pt.none (w : World) : Pt w (.slice none 0 0) [] := ⟨Option.none, 0, rfl, fun _ => rfl, by intro a e; cases e⟩
theorem Bs.none (w : World) : Bs w (.slice none 0 0) [] := ⟨Option.none, 0, rfl, Nat.le_refl _, fun _ => rfl, by intro a e; cases e⟩
/-- The whole of a sum as a slice. -/
theorem slice32_all (g : Nat) (w : World) : (Instr.sliceAt 23 (.pointer (some ⟨g, 0, none⟩)) none none none).run Tryz.prog w = .ok (.slice (some ⟨g, 0, none⟩) 32 32) w := by
  have h := run_sliceAt_array_all (P := Tryz.prog) (a := ⟨g, 0, none⟩) w 23 (by kernel_rfl)
  obtain ⟨i0, hi, hz0, hz1, hz2⟩ := info_parts Tryz.info5
  have he : Tryz.prog.elem 23 = 5 := by kernel_rfl
  have hsz : (sizeOf 5).run Tryz.prog w = .ok 1 w := by simp [sizeOf, typeInfo, hi, hz1]
  rw [h]
  first
    | (rw [Tryz.len32, he, hsz]; simp [slicedAt, Addr.add_mid])
    | (rw [Tryz.len32, he, hsz]; simp [slicedAt]; rfl)
set_option maxRecDepth 100000 in
set_option maxHeartbeats 2000000 in
theorem link_any {w : World} {v : Value} {pv xs : List UInt8} (hp : pv.length = 32) (h : Bs w v xs) {S K : List Nat} (ht : Tables w S K) (hn : xs.length < 1152921504606846900) :
    Calls Tryz.prog 49 #[.agg (bvs pv).toArray, v] w fun e w' => e = .returned (.agg (bvs (shaL S K (pv ++ xs))).toArray) ∧ Below w.heap.size w w' := by
  have TL := ht.lt
  have sl := slice32_all
  obtain ⟨ao, c, rfl, hrest⟩ := id h
  obtain ⟨w1, hw1⟩ : ∃ w1, w1 = w.alloc (.cells (bvs pv).toArray 23) := ⟨_, rfl⟩
  obtain ⟨w2, hw2⟩ : ∃ w2, w2 = w1.alloc (.cells Z32.toArray 23) := ⟨_, rfl⟩
  obtain ⟨w3, hw3⟩ : ∃ w3, w3 = w2.alloc (.cells #[.slice (some ⟨w.heap.size, 0, none⟩) 32 32, .slice ao xs.length c] 36) := ⟨_, rfl⟩
  have n1 : w1.heap.size = w.heap.size + 1 := by rw [hw1]; simp
  have n2 : w2.heap.size = w.heap.size + 2 := by rw [hw2]; simp; omega
  have n3 : w3.heap.size = w.heap.size + 3 := by rw [hw3]; simp; omega
  have b1 : w3.heap[w.heap.size]? = some (.cells (bvs pv).toArray 23 (0, 0)) := by
    rw [hw3, Below.heap_alloc _ _ _ (by omega), hw2, Below.heap_alloc _ _ _ (by omega), hw1]
    exact heap_alloc_new w _
  have b2 : w3.heap[w.heap.size + 1]? = some (.cells Z32.toArray 23 (0, 0)) := by
    rw [hw3, Below.heap_alloc _ _ _ (by omega), hw2, ← n1]
    exact heap_alloc_new w1 _
  have b3 : w3.heap[w.heap.size + 2]? = some (.cells #[.slice (some ⟨w.heap.size, 0, none⟩) 32 32, .slice ao xs.length c] 36 (0, 0)) := by
    rw [hw3, ← n2]
    exact heap_alloc_new w2 _
  have B3 : Below w.heap.size w w3 := by
    rw [hw3, hw2, hw1]
    exact (((Below.refl _ _).alloc (Nat.le_refl _) _).alloc (by simp) _).alloc (by simp; omega) _
  have P := Pt.two b3 (Bs.ofRow hp (Nat.le_refl _) b1) (h.below B3 (Nat.le_refl _))
  have O := of_any P (ht.below B3 (Nat.le_refl _)) (by simp [bytesOf]; omega) (by simp)
  rw [show bytesOf [(Value.slice (some ⟨w.heap.size, 0, none⟩) 32 32, pv), (Value.slice ao xs.length c, xs)] = pv ++ xs by simp [bytesOf]] at O
  have HO := Lib.hid O
  have HB2 := Lib.hid b2
  have HN3 := Lib.hid n3
  have HW := Lib.hid (show w3 = ((w.alloc (.cells (bvs pv).toArray 23)).alloc (.cells #[.int .u8 0, .int .u8 0, .int .u8 0, .int .u8 0, .int .u8 0, .int .u8 0, .int .u8 0, .int .u8 0, .int .u8 0, .int .u8 0, .int .u8 0, .int .u8 0, .int .u8 0, .int .u8 0, .int .u8 0, .int .u8 0, .int .u8 0, .int .u8 0, .int .u8 0, .int .u8 0, .int .u8 0, .int .u8 0, .int .u8 0, .int .u8 0, .int .u8 0, .int .u8 0, .int .u8 0, .int .u8 0, .int .u8 0, .int .u8 0, .int .u8 0, .int .u8 0] 23)).alloc (.cells #[.slice (some ⟨w.heap.size, 0, none⟩) 32 32, .slice ao xs.length c] 36) by rw [hw3, hw2, hw1, Z32_eq])
  clear O P b1 b2 b3 n1 n2 n3 hw1 hw2 hw3 hrest h hp
  clear w1 w2
  go_enter Tryz.func49, Tryz.ntmps49
  go_wp2_with fail
  rw [← HW.out]
  refine HO.out.mono ?_
  rintro e w4 ⟨rfl, B4⟩
  have n3 := HN3.out
  have z4 := Lib.hid ((B4.block _ (by omega)).trans HB2.out)
  have B4' := B3.trans (B4.mono (by omega))
  have hol : (bvs (shaL S K (pv ++ xs))).toArray.size = 32 := by rw [List.size_toArray, bvs_length, shaL_length]
  have sz := Lib.hid (show (Tryz.prog.info? 23).map (·.size) = some (bvs (shaL S K (pv ++ xs))).toArray.size by rw [hol]; kernel_rfl)
  have so := Lib.hid (show Z32.toArray.size = (bvs (shaL S K (pv ++ xs))).toArray.size by rw [hol]; rfl)
  have s1 := Lib.hid (show (bvs (shaL S K (pv ++ xs))).toArray.all (·.oneCell') = true from all_oneCell_toArray (bvs_one _))
  clear n3 HO B4 HB2 hol HW
  go_wp2_with (refine wpList_store_all rfl 23 (.tmp 4) (.tmp 8) rfl (w.heap.size + 1) 23 Z32.toArray _ rfl rfl z4.out sz.out so.out s1.out ?_)
  refine bodyPost_ret (results_cell_row rfl _ _ (w.heap.size + 1) 23 _ (0, 0) _ rfl (setRow_heap w4 _ _ _ _ (0, 0) z4.out) Tryz.underlying23 rfl sz.out) rfl ?_
  exact ⟨rfl, below_setRow B4' (by omega) _⟩
end Go.Proofs.YtnfobnnbeefeeaaGreatDoor.Sm
/- Chain: a chain of sums. -/
namespace Go.Proofs.YtnfobnnbeefeeaaGreatDoor.Sm
open Go Go.RowKit
set_option linter.unusedVariables false

theorem heap_setCells_at (g : Nat) (t : TypeId) : ∀ (vs : List Value) (o : Nat) (w : World) (cur : Array Value), w.heap[g]? = some (.cells cur t (0, 0)) → o + vs.length ≤ cur.size →
    (w.setCells g o vs).heap[g]? = some (.cells (cur.toList.take o ++ (vs ++ cur.toList.drop (o + vs.length))).toArray t (0, 0))
  | [], o, w, cur, h, _ => by simpa [World.setCells] using h
  | v :: vs, o, w, cur, h, ho => by
    rw [World.setCells]
    have h1 := heap_setCell_same w g o _ _ v h
    simp only [List.length_cons] at ho
    rw [heap_setCells_at g t vs (o + 1) _ _ h1 (by simp; omega)]
    congr 3
    have ho' : o < cur.toList.length := by simp; omega
    rw [Array.toList_setIfInBounds, List.take_set, List.drop_set, if_pos (by omega), List.take_succ_eq_append_getElem ho', List.set_append_right _ _ (by simp; omega)]
    simp [Nat.min_eq_left (Nat.le_of_lt (show o < cur.size by omega)), Nat.add_assoc, Nat.add_comm 1]
theorem Below.heap_setCells_other' (w : World) (g : Nat) : ∀ (o : Nat) (vs : List Value) (i : Nat), i ≠ g → (w.setCells g o vs).heap[i]? = w.heap[i]? := by
  intro o vs
  induction vs generalizing o w with
  | nil => intro i _; rfl
  | cons v vs ih =>
    intro i hi
    rw [World.setCells, ih _ _ i hi, heap_setCell_other _ _ _ _ (by simpa using hi)]
theorem setCells_size (g : Nat) : ∀ (vs : List Value) (o : Nat) (w : World), (w.setCells g o vs).heap.size = w.heap.size
  | [], _, _ => rfl
  | v :: vs, o, w => by rw [World.setCells, setCells_size g vs]; simp
theorem setCells_below {B : Nat} {w : World} (g : Nat) (hg : B ≤ g) : ∀ (vs : List Value) (o : Nat) {w' : World}, Below B w w' → Below B w (w'.setCells g o vs)
  | [], _, _, h => h
  | v :: vs, o, _, h => setCells_below g hg vs (o + 1) (h.setCell hg v)
theorem there_of_row {w : World} {g t o n : Nat} {cur : Array Value} (h : w.heap[g]? = some (.cells cur t (0, 0))) (ho : o + n ≤ cur.size) : w.there g o n := fun j hj => by
  refine ⟨?_, frozen_of_row w g _ _ _ h⟩
  rw [cell_of_row w g (o + j) _ _ _ h]
  have : o + j < cur.size := by omega
  simp [this]
/-- The sum ahead of text k. -/
def prevS (S K : List Nat) (first : List UInt8) (T : List (List UInt8)) : Nat → List UInt8
  | 0 => first
  | k + 1 => shaL S K (prevS S K first T k ++ T.getD k [])
def sumsTo (S K : List Nat) (first : List UInt8) (T : List (List UInt8)) : Nat → List UInt8
  | 0 => []
  | k + 1 => sumsTo S K first T k ++ prevS S K first T (k + 1)
theorem prevS_length (S K : List Nat) (first : List UInt8) (T : List (List UInt8)) (h : first.length = 32) : ∀ k, (prevS S K first T k).length = 32
  | 0 => h
  | k + 1 => shaL_length _ _ _
theorem sumsTo_length (S K : List Nat) (first : List UInt8) (T : List (List UInt8)) : ∀ k, (sumsTo S K first T k).length = 32 * k
  | 0 => rfl
  | k + 1 => by
    have h := sumsTo_length S K first T k
    have h2 : (prevS S K first T (k + 1)).length = 32 := shaL_length _ _ _
    show (sumsTo S K first T k ++ prevS S K first T (k + 1)).length = _
    rw [List.length_append, h, h2]; omega
def chTo (S K : List Nat) (first : List UInt8) (T : List (List UInt8)) (k : Nat) : List UInt8 := sumsTo S K first T k ++ List.replicate (32 * (T.length - k)) 0
theorem chTo_length (S K : List Nat) (first : List UInt8) (T : List (List UInt8)) (k : Nat) (hk : k ≤ T.length) : (chTo S K first T k).length = 32 * T.length := by
  rw [chTo, List.length_append, sumsTo_length, List.length_replicate]; omega
theorem chTo_succ (S K : List Nat) (first : List UInt8) (T : List (List UInt8)) (k : Nat) (hk : k < T.length) :
    (chTo S K first T k).take (32 * k) ++ (prevS S K first T (k + 1) ++ (chTo S K first T k).drop (32 * k + 32)) = chTo S K first T (k + 1) := by
  unfold chTo
  have h := sumsTo_length S K first T k
  rw [List.take_append_of_le_length (by omega), List.take_of_length_le (by omega), List.drop_append, List.drop_of_length_le (by omega), h, List.nil_append, List.drop_replicate]
  show _ = (sumsTo S K first T k ++ prevS S K first T (k + 1)) ++ _
  rw [List.append_assoc]
  congr 3
  omega
theorem Tryz.infoSum : (Tryz.prog.info? 23).map (fun i => (i.zero, i.size, i.bytes)) = some (some (.agg Z32.toArray), 32, 32) := by kernel_rfl
theorem made_sums (n : Nat) : madeCells Z32.toArray (n * 32) = (bvs (List.replicate (32 * n) 0)).toArray := by
  apply Array.toList_inj.1
  apply List.ext_getElem?
  intro j
  have hz : Z32.toArray.size = 32 := by simp [Z32, bvs]
  by_cases hj : j < n * 32
  · have hj' : j < 32 * n := by omega
    have hm : j % 32 < 32 := Nat.mod_lt _ (by decide)
    have hg : Z32.toArray[j % 32]? = some (bv 0) := by
      simp only [Z32, bvs, List.map_replicate, List.getElem?_toArray, List.getElem?_replicate, hm, if_pos]
    have hg' : Z32.toArray[j % 32]! = bv 0 := by rw [getElem!_def, hg]
    have hg2 : Z32[j % 32]?.getD default = bv 0 := by rw [← List.getElem?_toArray, hg]; rfl
    simp [madeCells, hj, hj', bvs, hz, hg2]
  · have hj' : ¬ j < 32 * n := by omega
    simp [madeCells, hj, hj', bvs]
def ChRel (w : World) (g gp : Nat) (S K : List Nat) (first : List UInt8) (T : List (List UInt8)) (u : Value) (wr : World) : Prop :=
  ∃ k : Nat, u = .int .i64 (k : Int) ∧ k ≤ T.length ∧ wr.heap[g]? = some (.cells (bvs (chTo S K first T k)).toArray 23 (0, 0)) ∧ wr.heap[gp]? = some (.cells (bvs (prevS S K first T k)).toArray 23 (0, 0)) ∧ Below w.heap.size w wr
end Go.Proofs.YtnfobnnbeefeeaaGreatDoor.Sm
/- The standard's numbers, and some sums reckoned by the kernel. -/
namespace Go.Proofs.YtnfobnnbeefeeaaGreatDoor.Sm
open Go
set_option linter.unusedVariables false

def S0 : List Nat := [1779033703, 3144134277, 1013904242, 2773480762, 1359893119, 2600822924, 528734635, 1541459225]
def K0 : List Nat := [1116352408, 1899447441, 3049323471, 3921009573, 961987163, 1508970993, 2453635748, 2870763221, 3624381080, 310598401, 607225278, 1426881987, 1925078388, 2162078206, 2614888103, 3248222580, 3835390401, 4022224774, 264347078, 604807628, 770255983, 1249150122, 1555081692, 1996064986, 2554220882, 2821834349, 2952996808, 3210313671, 3336571891, 3584528711, 113926993, 338241895, 666307205, 773529912, 1294757372, 1396182291, 1695183700, 1986661051, 2177026350, 2456956037, 2730485921, 2820302411, 3259730800, 3345764771, 3516065817, 3600352804, 4094571909, 275423344, 430227734, 506948616, 659060556, 883997877, 958139571, 1322822218, 1537002063, 1747873779, 1955562222, 2024104815, 2227730452, 2361852424, 2428436474, 2756734187, 3204031479, 3329325298]
theorem S0_lt : ∀ x ∈ S0, x < 4294967296 := by decide
theorem crc_known : crcOf [49, 50, 51, 52, 53, 54, 55, 56, 57] = 3421780262 := by decide +kernel
theorem sha_abc : (shaR S0 K0 [97, 98, 99]).getD 0 0 = 186 := by decide +kernel
theorem sha_nil : (shaR S0 K0 []).getD 31 0 = 85 := by decide +kernel
end Go.Proofs.YtnfobnnbeefeeaaGreatDoor.Sm
/- The head of the sum laws: known. -/
namespace Go.Proofs.YtnfobnnbeefeeaaGreatDoor.Sm
open Go Go.RowKit
set_option linter.unusedVariables false
theorem conv_bytes (w : World) (C : Array Value) (n c : Nat) : (Go.convert 36 36 (.slice (some ⟨w.heap.size, 0, none⟩) n c)).run Tryz.prog (w.alloc (.cells C 5)) = .ok (.slice (some ⟨w.heap.size, 0, none⟩) n c) (w.alloc (.cells C 5 (C.size, C.size + 1))) := Lib.run_convert_bytes_const (P := Tryz.prog) w 36 5 C n c Tryz.underlying36 Tryz.underlying5
theorem index_sum (cs : Array Value) (i : Nat) (u : Value) (hi : i < 32) (hs : cs.size = 32) (h : cs[i]? = some u) (k : IntKind) (w : World) : (Instr.index 23 (.agg cs) (.int k (i : Int))).run Tryz.prog w = .ok u w := by
  have hu : Tryz.prog.underlying 23 = some (.array 32 5) := by kernel_rfl
  obtain ⟨i0, hi0, hz0, hz1, hz2⟩ := info_parts Tryz.info5
  have hi' : i < cs.size := by omega
  have hv : cs[i] = u := by rw [Array.getElem?_eq_getElem hi'] at h; exact Option.some.inj h
  simp [Instr.index, run_underlying hu, asIntOf, go_sem, hi, sizeOf, typeInfo, hi0, hz1, hv, hi']
theorem bvs_lit (l : List UInt8) (i : Nat) (h : i < l.length) : (bvs l).toArray[i]? = some (.int .u8 ((l.getD i 0).toNat : Int)) := by
  simp [bvs, bv, List.getD, h]
end Go.Proofs.YtnfobnnbeefeeaaGreatDoor.Sm
