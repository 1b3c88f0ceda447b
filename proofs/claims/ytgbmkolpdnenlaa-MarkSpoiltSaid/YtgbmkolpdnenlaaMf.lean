/- Two sectors of a disk: what readPair makes of them. -/
import Derived.Test.YtgbmkolpdnenlaaMd
import Derived.Laws.ResultCell
namespace Go.Proofs.Ytgbmkolpdnenlaa.Dk
open Go Go.RowKit
set_option linter.unusedVariables false
set_option linter.unusedSimpArgs false

theorem results2_cell_row {P : Program} {fn : Func} {p u : Tmp} {ty : TypeId} (h : fn.results = #[.cell p ty, .tmp u]) (tmps : Array Value) (w : World) (g : Nat) (t : TypeId) (cs : Array Value) (fr : Nat × Nat) (d : TypeDesc) (vu : Value)
    (hp : tmps.getD p undef = .pointer (some ⟨g, 0, none⟩)) (hv : tmps.getD u undef = vu) (hg : w.heap[g]? = some (.cells cs t fr))
    (hu : P.underlying ty = some d) (hd : (match d with | .struct _ | .array _ _ => true | _ => false) = true) (hi : (P.info? ty).map (·.size) = some cs.size) :
    (results fn tmps).run P w = .ok (.tuple #[.agg cs, vu]) w := by
  rw [results_cell_tmp h, hp, hv]
  simp [asAddr, run_loadVar_row w g t ty cs fr d hg hu hd hi, Result.andThen]
variable {w : World} {d g m n : Nat} {x : DS}
theorem read_up (hd : x.down = false) {i : Int} (hi : x.has i = true) : (x.read i).2 = 0 := by
  unfold DS.read
  rw [if_neg (by rw [hd]; decide)]
  split
  · rfl
  · simp [DS.sure, hi]
theorem Try.zeroP : Try.zeroCells95 = (bvs zeros ++ bvs zeros).toArray := by kernel_rfl
theorem Try.pairSize : (Try.prog.info? 95).map (·.size) = some 256 := by kernel_rfl
/-- Where the loop stands that reads the two sectors. -/
def RpRel (w : World) (d g m n : Nat) (x : DS) (first : Nat) (g4 g6 : Nat) (u : Value) (wr : World) : Prop :=
  ∃ i : Nat, u = .int .i64 (i : Int) ∧ i ≤ 2 ∧ ∃ a b : List UInt8, a.length = 128 ∧ b.length = 128 ∧ (0 < i → a = (x.read (first : Int)).1) ∧ (1 < i → b = (x.read ((first + 1 : Nat) : Int)).1) ∧ wr.heap[g6]? = some (.cells (bvs a ++ bvs b).toArray 95 (0, 0)) ∧
    wr.heap[g4]? = some (.cells (bvs zeros ++ bvs zeros).toArray 95 (0, 0)) ∧ DiskAt Try.prog wr d g m n x ∧ Below w.heap.size w wr
theorem splice_fst {a b c : List UInt8} (ha : a.length = 128) (hb : b.length = 128) (hc : c.length = 128) : splice (bvs a ++ bvs b) 0 (bvs c) = bvs c ++ bvs b := by
  unfold splice
  rw [List.take_zero, List.nil_append, Nat.zero_add, bvs_length, hc, List.drop_append, bvs_length, ha, List.drop_eq_nil_of_le (by rw [bvs_length, ha]; omega), List.nil_append]
  rfl
theorem splice_snd {a b c : List UInt8} (ha : a.length = 128) (hb : b.length = 128) (hc : c.length = 128) : splice (bvs a ++ bvs b) 128 (bvs c) = bvs a ++ bvs c := by
  unfold splice
  rw [bvs_length, hc, List.take_append_of_le_length (by rw [bvs_length, ha]; omega), List.take_of_length_le (by rw [bvs_length, ha]; omega), List.drop_eq_nil_of_le (by rw [List.length_append, bvs_length, bvs_length, ha, hb]; omega), List.append_nil]
set_option maxRecDepth 100000 in
set_option maxHeartbeats 4000000 in
theorem readPair_ok (h : DiskAt Try.prog w d g m n x) (first : Nat) (hr : first + 2 ≤ x.s.length) (hdn : x.down = false) :
    Calls Try.prog 33 #[.pointer (some ⟨d, 0, none⟩), .int .i64 (first : Int)] w fun e w' => ∃ a b, a = (x.read (first : Int)).1 ∧ b = (x.read ((first + 1 : Nat) : Int)).1 ∧ a.length = 128 ∧ b.length = 128 ∧ e = .returned (.tuple #[.agg (bvs a ++ bvs b).toArray, .int .i64 0]) ∧ Below w.heap.size w w' := by
  have hfw := h.few
  have H := Lib.hid h
  obtain ⟨w1, hw1⟩ : ∃ w1, w1 = w.alloc (.cells Try.zeroCells95 95) := ⟨_, rfl⟩
  have z1 : w1.heap.size = w.heap.size + 1 := by rw [hw1]; exact Array.size_push _
  have f1 : Below w.heap.size w w1 := by rw [hw1]; exact (Below.refl _ _).alloc (Nat.le_refl _) _
  have r1 : w1.heap[w.heap.size]? = some (.cells (bvs zeros ++ bvs zeros).toArray 95 (0, 0)) := by rw [hw1, ← Try.zeroP]; exact heap_alloc_new _ _
  obtain ⟨w2, hw2⟩ : ∃ w2, w2 = w1.alloc (.cells Try.zeroCells95 95) := ⟨_, rfl⟩
  obtain ⟨g6, hg6⟩ : ∃ g6, g6 = w1.heap.size := ⟨_, rfl⟩
  have f2 : Below w1.heap.size w1 w2 := by rw [hw2]; exact (Below.refl _ _).alloc (Nat.le_refl _) _
  have r2 : w2.heap[g6]? = some (.cells (bvs zeros ++ bvs zeros).toArray 95 (0, 0)) := by rw [hw2, hg6, ← Try.zeroP]; exact heap_alloc_new _ _
  have SC := Lib.hid (sectors_any (h.below f1 (Nat.le_refl _)))
  have L0 := Lib.hid (show RpRel w d g m n x first w.heap.size g6 (.int .i64 0) w2 from ⟨0, rfl, Nat.zero_le _, zeros, zeros, zeros_length, zeros_length, fun h => absurd h (by decide), fun h => absurd h (by decide), r2, (f2.block _ (lt_of_row r1)).trans r1, (h.below f1 (Nat.le_refl _)).below f2 (Nat.le_refl _), f1.trans (f2.mono f1.size)⟩)
  have HW1 := Lib.hid hw1
  have HW2 := Lib.hid hw2
  have HG6 := Lib.hid hg6
  have HN := Lib.hid (show g6 ≠ w.heap.size ∧ w.heap.size ≤ g6 ∧ ¬ own3 d g m g6 from ⟨by omega, by omega, fun e => by have h1 := h.dlt; have h2 := h.glt; have h3 := h.mlt; rcases e with e | e | e <;> omega⟩)
  have c1 : ¬ ((x.s.length : Int) - 2 < (first : Int)) := by omega
  have hwr : ∀ i : Nat, i ≤ 2 → wrap64 ((first : Int) + (i : Int)) = (first : Int) + (i : Int) := fun i hi => by unfold wrap64; omega
  have hwr2 : wrap64 ((x.s.length : Int) - 2) = (x.s.length : Int) - 2 := by unfold wrap64; omega
  have HWR := Lib.hid hwr
  clear h hw1 hw2 hg6 z1 f1 r1 f2 r2 hwr
  go_enter Try.func33, Try.ntmps33
  go_wp2_with fail
  rw [← HW1.out]
  refine SC.out.mono ?_
  rintro e w' ⟨rfl, rfl⟩
  go_wp2_with fail
  rw [← HW2.out, ← HG6.out]
  clear c1 hwr2
  go_loopw [20] (fun u wr => RpRel w d g m n x first w.heap.size g6 u wr) (fun u _ => 2 - (intOf u).toNat)
  case atStart => exact L0.out
  case round =>
    obtain ⟨wo, rfl⟩ : ∃ wo : World, wo = wr := ⟨_, rfl⟩
    obtain ⟨i, rfl, hi, a, b, la, lb, ha, hb, hrow, hr4, hD, hB⟩ := hrel
    have HA := Lib.hid ha
    have HBB := Lib.hid hb
    have HROW := Lib.hid hrow
    have HR4 := Lib.hid hr4
    have HD := Lib.hid hD
    have HB := Lib.hid hB
    have HLA := Lib.hid la
    have HLB := Lib.hid lb
    clear ha hb hrow hr4 hD hB la lb L0
    by_cases hil : i < 2
    · have hii : (i : Int) < 2 := by omega
      have hw := HWR.out i (by omega)
      have hcode : (x.read (((first + i : Nat)) : Int)).2 = 0 := read_up hdn (by simp [DS.has]; omega)
      have RD := Lib.hid (read_any HD.out (((first + i : Nat)) : Int) (WalkArith.wf_i64 (by omega)))
      rw [hcode] at RD
      rw [Int.natCast_add] at RD
      have hfi : (first : Int) + (i : Int) ≤ 5000 := by omega
      clear hcode
      go_wp2_with fail
      refine RD.out.mono ?_
      rintro e w3 ⟨v, rfl, hans, hb3⟩
      unfold Ans at hans
      rw [if_pos (by rw [← Int.natCast_add]; exact read_up hdn (by simp [DS.has]; omega)), ← Int.natCast_add] at hans
      obtain ⟨k4, hv4, hk4, hr4', hl4⟩ := hans
      subst hv4
      have HROW3 := Lib.hid ((hb3.block _ (lt_of_row HROW.out)).trans HROW.out)
      have HR43 := Lib.hid ((hb3.block _ (lt_of_row HR4.out)).trans HR4.out)
      have HD3 := Lib.hid (HD.out.below hb3 (Nat.le_refl _))
      have HB3 := Lib.hid (HB.out.trans (hb3.mono HB.out.size))
      have HK4 := Lib.hid hr4'
      have HLL := Lib.hid hl4
      clear hb3 hr4' RD HROW HR4 HD HB hl4
      obtain ⟨rd, hrd⟩ : ∃ rd, rd = (x.read ((first + i : Nat) : Int)).1 := ⟨_, rfl⟩
      rw [← hrd] at HK4 HLL
      have HRD := Lib.hid hrd
      have HNN := Lib.hid (show (bvs rd).length = Nat.min 128 128 by rw [bvs_length, HLL.out]; rfl)
      have HCC := Lib.hid (show ∀ j v, (bvs rd)[j]? = some v → w3.cell? ((⟨k4, 0, none⟩ : Addr).add j) = some v from fun j v hv => by
        rw [Addr.add_mid, cell_of_row w3 k4 (0 + j) _ _ _ HK4.out, Nat.zero_add]
        simpa using hv)
      have HFF := Lib.hid (show i * 128 + (bvs rd).length ≤ (bvs a ++ bvs b).length by rw [List.length_append, bvs_length, bvs_length, bvs_length, HLL.out, HLA.out, HLB.out]; omega)
      clear hrd
      go_wp2_with (with_reducible show wpList _ _ _ _ _ _; refine wpList_copy_splice rfl (.tmp 37) (.tmp 38) 44 44 rfl 5 Try.underlying44 (by kernel_rfl) (some ⟨g6, i * 128, none⟩) (some ⟨k4, 0, none⟩) 128 128 128 128 rfl rfl g6 (i * 128) (bvs a ++ bvs b) 95 HROW3.out (bvs rd) HNN.out (fun _ => ⟨rfl, _, rfl, HCC.out⟩) HFF.out (bvs_one _) g6 w3 (Below.refl _ _) (Nat.le_refl _) ?_)
      intro w6 HG hb6
      have hbb := HB3.out.trans (hb6.mono HN.out.2.1)
      have HR6 := Lib.hid ((hb6.block _ (by have := HN.out; omega)).trans HR43.out)
      have HD6 := Lib.hid (H.out.below hbb (Nat.le_refl _))
      have HB6 := Lib.hid hbb
      clear hbb hb6 HCC HFF
      go_wp2_with fail
      have hme : 2 - (intOf (Value.int .i64 ((i : Int) + 1))).toNat < 2 - (intOf (Value.int .i64 (i : Int))).toNat := by simp [intOf]; omega
      refine ⟨?_, hme⟩
      have hg := HG.out
      rcases (show i = 0 ∨ i = 1 by omega) with rfl | rfl
      · rw [show 0 * 128 = 0 from rfl, splice_fst HLA.out HLB.out HLL.out] at hg
        exact ⟨1, rfl, by decide, rd, b, HLL.out, HLB.out, fun _ => HRD.out, fun h => absurd h (by decide), hg, HR6.out, HD6.out, HB6.out⟩
      · rw [show 1 * 128 = 128 from rfl, splice_snd HLA.out HLB.out HLL.out] at hg
        exact ⟨2, rfl, by decide, a, rd, HLA.out, HLL.out, fun _ => HA.out (by decide), fun _ => HRD.out, hg, HR6.out, HD6.out, HB6.out⟩
    · obtain rfl : i = 2 := by omega
      rw [show ((2 : Nat) : Int) = 2 from rfl]
      have HSZ2 := Lib.hid (show (Try.prog.info? 95).map (·.size) = some (bvs a ++ bvs b).toArray.size by rw [Try.pairSize]; simp [HLA.out, HLB.out, bvs_length])
      have HSZ := Lib.hid (show (Try.prog.info? 95).map (·.size) = some (bvs a ++ bvs b).length by rw [Try.pairSize]; simp [HLA.out, HLB.out, bvs_length])
      have HC := Lib.hid (show ∀ j v, (bvs a ++ bvs b)[j]? = some v → wo.cell? ((⟨g6, 0, none⟩ : Addr).add j) = some v from fun j v hv => by
        rw [Addr.add_mid, cell_of_row wo g6 (0 + j) _ _ _ HROW.out, Nat.zero_add]
        simpa using hv)
      have HSO := Lib.hid (show (bvs zeros ++ bvs zeros).toArray.size = (bvs a ++ bvs b).toArray.size by simp [HLA.out, HLB.out, bvs_length, zeros_length])
      have H1 := Lib.hid (show (bvs a ++ bvs b).toArray.all (·.oneCell') = true from all_oneCell_toArray (fun u hu => by rcases List.mem_append.1 hu with h | h; exact bvs_one _ u h; exact bvs_one _ u h))
      go_wp2_with (first
        | (with_reducible show wpList _ _ _ _ _ _; refine wpList_load_all rfl 95 (.tmp 6) rfl ⟨g6, 0, none⟩ rfl (bvs a ++ bvs b) _ HC.out Try.underlying95 rfl HSZ.out ?_)
        | (with_reducible show wpList _ _ _ _ _ _; refine wpList_store_whole rfl 95 (.tmp 4) (.tmp 41) rfl w.heap.size 95 (bvs zeros ++ bvs zeros).toArray (bvs a ++ bvs b).toArray rfl rfl HR4.out HSZ2.out HSO.out H1.out ?_))
      refine bodyPost_ret (results2_cell_row rfl _ _ w.heap.size 95 _ (0, 0) _ (.int .i64 0) rfl rfl (setRow_heap wo _ _ _ _ (0, 0) HR4.out) Try.underlying95 rfl HSZ2.out) rfl ⟨a, b, HA.out (by decide), HBB.out (by decide), HLA.out, HLB.out, rfl, ?_⟩
      exact below_setRow HB.out (Nat.le_refl _) _
theorem read_down (hd : x.down = true) (i : Int) : (x.read i).2 = 50 := by
  unfold DS.read
  rw [if_pos hd]
theorem Try.zeroPSize : Try.zeroCells95.size = 256 := by kernel_rfl
theorem Try.zeroPOnes : Try.zeroCells95.all (·.oneCell') = true := by kernel_rfl
set_option maxRecDepth 100000 in
set_option maxHeartbeats 4000000 in
theorem readPair_bad (h : DiskAt Try.prog w d g m n x) (first : Int) (hw : wfi first) (hr : first < 0 ∨ (x.s.length : Int) - 2 < first) :
    Calls Try.prog 33 #[.pointer (some ⟨d, 0, none⟩), .int .i64 first] w fun e w' => e = .returned (.tuple #[.agg Try.zeroCells95, .int .i64 1]) ∧ Below w.heap.size w w' := by
  have hfw := h.few
  obtain ⟨w1, hw1⟩ : ∃ w1, w1 = w.alloc (.cells Try.zeroCells95 95) := ⟨_, rfl⟩
  have f1 : Below w.heap.size w w1 := by rw [hw1]; exact (Below.refl _ _).alloc (Nat.le_refl _) _
  have r1 : w1.heap[w.heap.size]? = some (.cells Try.zeroCells95 95 (0, 0)) := by rw [hw1]; exact heap_alloc_new _ _
  have SC := Lib.hid (sectors_any (h.below f1 (Nat.le_refl _)))
  rw [hw1] at SC f1 r1
  have HF1 := Lib.hid f1
  have HR1 := Lib.hid r1
  have HSZ := Lib.hid (show (Try.prog.info? 95).map (·.size) = some Try.zeroCells95.size by rw [Try.pairSize, Try.zeroPSize])
  have hwr2 : wrap64 ((x.s.length : Int) - 2) = (x.s.length : Int) - 2 := by unfold wrap64; omega
  clear h hw1 f1 r1
  go_enter Try.func33, Try.ntmps33
  go_wp2_with (first
    | (go_at_call 51; (with_reducible refine SC.out.mono ?_); rintro e w' ⟨rfl, rfl⟩)
    | (with_reducible show wpList _ _ _ _ _ _; refine wpList_store_whole rfl 95 (.tmp 4) (.tmp 19) rfl w.heap.size 95 Try.zeroCells95 Try.zeroCells95 rfl rfl HR1.out HSZ.out rfl Try.zeroPOnes ?_))
  all_goals exact bodyPost_ret (results2_cell_row rfl _ _ w.heap.size 95 _ (0, 0) _ (.int .i64 1) rfl rfl (setRow_heap _ _ _ _ _ (0, 0) HR1.out) Try.underlying95 rfl HSZ.out) rfl ⟨rfl, below_setRow HF1.out (Nat.le_refl _) _⟩
/-- Where the loop stands that reads the two sectors of a disk that is down. -/
def RdDown (w : World) (g4 : Nat) (d g m n : Nat) (x : DS) (u : Value) (wr : World) : Prop := u = .int .i64 0 ∧ wr.heap[g4]? = some (.cells Try.zeroCells95 95 (0, 0)) ∧ DiskAt Try.prog wr d g m n x ∧ Below w.heap.size w wr
set_option maxRecDepth 100000 in
set_option maxHeartbeats 4000000 in
theorem readPair_down (h : DiskAt Try.prog w d g m n x) (first : Nat) (hr : first + 2 ≤ x.s.length) (hdn : x.down = true) :
    Calls Try.prog 33 #[.pointer (some ⟨d, 0, none⟩), .int .i64 (first : Int)] w fun e w' => e = .returned (.tuple #[.agg Try.zeroCells95, .int .i64 50]) ∧ Below w.heap.size w w' := by
  have hfw := h.few
  obtain ⟨w1, hw1⟩ : ∃ w1, w1 = w.alloc (.cells Try.zeroCells95 95) := ⟨_, rfl⟩
  have z1 : w1.heap.size = w.heap.size + 1 := by rw [hw1]; exact Array.size_push _
  have f1 : Below w.heap.size w w1 := by rw [hw1]; exact (Below.refl _ _).alloc (Nat.le_refl _) _
  have r1 : w1.heap[w.heap.size]? = some (.cells Try.zeroCells95 95 (0, 0)) := by rw [hw1]; exact heap_alloc_new _ _
  obtain ⟨w2, hw2⟩ : ∃ w2, w2 = w1.alloc (.cells Try.zeroCells95 95) := ⟨_, rfl⟩
  obtain ⟨g6, hg6⟩ : ∃ g6, g6 = w1.heap.size := ⟨_, rfl⟩
  have f2 : Below w1.heap.size w1 w2 := by rw [hw2]; exact (Below.refl _ _).alloc (Nat.le_refl _) _
  have SC := Lib.hid (sectors_any (h.below f1 (Nat.le_refl _)))
  have L0 := Lib.hid (show RdDown w w.heap.size d g m n x (.int .i64 0) w2 from ⟨rfl, (f2.block _ (lt_of_row r1)).trans r1, (h.below f1 (Nat.le_refl _)).below f2 (Nat.le_refl _), f1.trans (f2.mono f1.size)⟩)
  have HW1 := Lib.hid hw1
  have HW2 := Lib.hid hw2
  have HG6 := Lib.hid hg6
  have HSZ := Lib.hid (show (Try.prog.info? 95).map (·.size) = some Try.zeroCells95.size by rw [Try.pairSize, Try.zeroPSize])
  have c1 : ¬ ((x.s.length : Int) - 2 < (first : Int)) := by omega
  have hwr2 : wrap64 ((x.s.length : Int) - 2) = (x.s.length : Int) - 2 := by unfold wrap64; omega
  have HWF := Lib.hid (show wfi (first : Int) from WalkArith.wf_i64 (by omega))
  have hwf : wrap64 (first : Int) = (first : Int) := by unfold wrap64; omega
  clear h hw1 hw2 hg6 z1 f1 r1 f2
  go_enter Try.func33, Try.ntmps33
  go_wp2_with fail
  rw [← HW1.out]
  refine SC.out.mono ?_
  rintro e w' ⟨rfl, rfl⟩
  go_wp2_with fail
  rw [← HW2.out, ← HG6.out]
  clear c1 hwr2
  go_loopw [20] (fun u wr => RdDown w w.heap.size d g m n x u wr) (fun u _ => 2 - (intOf u).toNat)
  case atStart => exact L0.out
  case round =>
    obtain ⟨wo, rfl⟩ : ∃ wo : World, wo = wr := ⟨_, rfl⟩
    obtain ⟨rfl, hr4, hD, hB⟩ := hrel
    have RD := Lib.hid (read_any hD (first : Int) HWF.out)
    rw [read_down hdn] at RD
    have HR4 := Lib.hid hr4
    have HB := Lib.hid hB
    clear hr4 hD hB L0
    go_wp2_with fail
    refine RD.out.mono ?_
    rintro e w3 ⟨v, rfl, hans, hb3⟩
    unfold Ans at hans
    rw [if_neg (by rw [read_down hdn]; decide)] at hans
    subst hans
    have HR43 := Lib.hid ((hb3.block _ (lt_of_row HR4.out)).trans HR4.out)
    have HB3 := Lib.hid (HB.out.trans (hb3.mono HB.out.size))
    clear hb3 RD HR4 HB
    go_wp2_with (with_reducible show wpList _ _ _ _ _ _; refine wpList_store_whole rfl 95 (.tmp 4) (.tmp 33) rfl w.heap.size 95 Try.zeroCells95 Try.zeroCells95 rfl rfl HR43.out HSZ.out rfl Try.zeroPOnes ?_)
    refine bodyPost_ret (results2_cell_row rfl _ _ w.heap.size 95 _ (0, 0) _ (.int .i64 50) rfl rfl (setRow_heap _ _ _ _ _ (0, 0) HR43.out) Try.underlying95 rfl HSZ.out) rfl ⟨rfl, ?_⟩
    exact below_setRow HB3.out (Nat.le_refl _) _
end Go.Proofs.Ytgbmkolpdnenlaa.Dk
