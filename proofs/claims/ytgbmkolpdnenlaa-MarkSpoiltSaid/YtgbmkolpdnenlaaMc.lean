/- A mark's sector: what read does. -/
import Derived.Test.YtgbmkolpdnenlaaMb
namespace Go.Proofs.Ytgbmkolpdnenlaa.Dk
open Go Go.RowKit
set_option linter.unusedVariables false
set_option linter.unusedSimpArgs false

/-- The mark that a sector's bytes tell. -/
def readM (l : List UInt8) : MkD := ⟨wordN l 0 8, (List.range 6).map fun i => wordN l (8 * (1 + i)) 8⟩
theorem word8_lt (l : List UInt8) (a : Nat) : wordN l a 8 < 18446744073709551616 := by
  have := wordN_lt l a 8
  have e : (256 : Nat) ^ 8 = 18446744073709551616 := by decide
  omega
theorem readM_ok (l : List UInt8) : (readM l).Ok := ⟨word8_lt l 0, by simp [readM], fun n hn => by
  simp only [readM, List.mem_map] at hn
  obtain ⟨i, _, rfl⟩ := hn
  exact word8_lt l _⟩
/-- Its first i words are read. -/
def upM (l : List UInt8) (i : Nat) : List Value := uv (wordN l 0 8) :: (((List.range i).map fun k => uv (wordN l (8 * (1 + k)) 8)) ++ List.replicate (6 - i) (uv 0))
theorem upM_end (l : List UInt8) : upM l 6 = (readM l).cells := by
  simp only [upM, readM, MkD.cells, List.map_map, Nat.sub_self, List.replicate_zero, List.append_nil]
  rfl
theorem upM_length (l : List UInt8) {i : Nat} (h : i ≤ 6) : (upM l i).length = 7 := by simp [upM]; omega
theorem upM_step (l : List UInt8) {i : Nat} (h : i < 6) : (upM l i).set (1 + i) (uv (wordN l (8 * (1 + i)) 8)) = upM l (i + 1) := by
  unfold upM
  rw [Nat.add_comm 1 i, List.set_cons_succ]
  congr 1
  have hl : ((List.range i).map fun k => uv (wordN l (8 * (1 + k)) 8)).length = i := by simp
  rw [List.set_append, if_neg (by rw [hl]; omega), hl, Nat.sub_self, List.range_succ, List.map_append]
  rw [show 6 - i = (6 - (i + 1)) + 1 by omega, List.replicate_succ, List.set_cons_zero]
  simp [Nat.add_comm 1 i]
def RdmRel (l : List UInt8) (g g3 : Nat) (w3 : World) (u : Value) (wr : World) : Prop := ∃ i : Nat, u = .int .i64 (i : Int) ∧ i ≤ 6 ∧ wr.heap[g3]? = some (.cells (upM l i).toArray 34 (0, 0)) ∧ Frm (fun k => k = g3) w3 wr
theorem MkD.ofSize : (Try.prog.info? 34).map (·.size) = some 7 := by kernel_rfl
set_option maxRecDepth 100000 in
set_option maxHeartbeats 4000000 in
theorem kread_any {w : World} {g : Nat} {l : List UInt8} (h : SecAt w g l) : Calls Try.prog 63 #[.pointer (some ⟨g, 0, none⟩)] w fun e w' => e = .returned (.agg (readM l).cells.toArray) ∧ Below w.heap.size w w' := by
  have H := Lib.hid h
  clear h
  have hgl := lt_of_row H.out.1
  obtain ⟨w1, hw1⟩ : ∃ w1, w1 = w.alloc (.cells #[.int .u64 0, .int .u64 0, .int .u64 0, .int .u64 0, .int .u64 0, .int .u64 0, .int .u64 0] 34) := ⟨_, rfl⟩
  have f1 : Below w.heap.size w w1 := by rw [hw1]; exact (Below.refl _ _).alloc (Nat.le_refl _) _
  have r1 := heap_alloc_new w (.cells #[.int .u64 0, .int .u64 0, .int .u64 0, .int .u64 0, .int .u64 0, .int .u64 0, .int .u64 0] 34)
  have z1 : w1.heap.size = w.heap.size + 1 := by rw [hw1]; exact Array.size_push _
  rw [← hw1] at r1
  have S1 : SecAt w1 g l := ⟨(f1.block g hgl).trans H.out.1, H.out.2⟩
  have WD := Lib.hid (word_any S1 0 (by decide))
  have HW1 := Lib.hid hw1
  have HS1 := Lib.hid S1
  have HR1 := Lib.hid r1
  have HF1 := Lib.hid f1
  have HZ1 := Lib.hid z1
  clear hw1 r1 f1 S1 z1
  go_enter Try.func63, Try.ntmps63
  go_wp2_with fail
  rw [← HW1.out]
  refine WD.out.mono ?_
  rintro e w' ⟨rfl, rfl⟩
  obtain ⟨g3, hg3⟩ : ∃ g3, g3 = w1.heap.size := ⟨_, rfl⟩
  obtain ⟨w2, hw2⟩ : ∃ w2, w2 = w1.alloc (.cells #[.int .u64 ((wordN l 0 8 : Nat) : Int), .int .u64 0, .int .u64 0, .int .u64 0, .int .u64 0, .int .u64 0, .int .u64 0] 34) := ⟨_, rfl⟩
  have f2 : Below w1.heap.size w1 w2 := by rw [hw2]; exact (Below.refl _ _).alloc (Nat.le_refl _) _
  have r2 : w2.heap[g3]? = some (.cells (upM l 0).toArray 34 (0, 0)) := by rw [hw2, hg3]; exact heap_alloc_new w1 _
  have L0 := Lib.hid (show RdmRel l g g3 w2 (.int .i64 0) w2 from ⟨0, rfl, Nat.zero_le _, r2, Frm.refl _ _⟩)
  have HG3 := Lib.hid hg3
  have HW2 := Lib.hid hw2
  have HS2 := Lib.hid (show SecAt w2 g l from ⟨(f2.block g (lt_of_row HS1.out.1)).trans HS1.out.1, HS1.out.2⟩)
  have HR2 := Lib.hid ((f2.block w.heap.size (lt_of_row HR1.out)).trans HR1.out)
  have HB2 := Lib.hid (HF1.out.trans (f2.mono HF1.out.size))
  have GNE := Lib.hid (show g ≠ g3 ∧ w.heap.size ≠ g3 ∧ w.heap.size ≤ g3 from by have := lt_of_row HS1.out.1; have := HZ1.out; omega)
  clear hg3 hw2 f2 r2
  go_wp2_with fail
  rw [← HW2.out, ← HG3.out]
  go_loopw [8] (fun u wr => RdmRel l g g3 w2 u wr) (fun u _ => 6 - (intOf u).toNat)
  case atStart => exact L0.out
  case round =>
    obtain ⟨wo, rfl⟩ : ∃ wo : World, wo = wr := ⟨_, rfl⟩
    obtain ⟨i, rfl, hi, hrow, hF⟩ := hrel
    have HROW := Lib.hid hrow
    have HF := Lib.hid hF
    clear hrow hF L0
    by_cases hil : i < 6
    · have hii : (i : Int) < 6 := by omega
      have SW : SecAt wo g l := ⟨(HF.out.block g (lt_of_row HS2.out.1) GNE.out.1).trans HS2.out.1, HS2.out.2⟩
      have WD := Lib.hid (word_any SW (8 * (1 + i)) (by omega))
      rw [show ((8 * (1 + i) : Nat) : Int) = (1 + (i : Int)) * 8 by omega] at WD
      have hw8 : wrap64 (8 * (1 + (i : Int))) = 8 * (1 + (i : Int)) := by unfold wrap64; omega
      have hc : wo.cell? ⟨g3, 1 + i, none⟩ = (upM l i)[1 + i]? := by rw [cell_of_row wo g3 (1 + i) _ _ _ HROW.out]; simp
      have hcl : (upM l i)[1 + i]? = some ((upM l i)[1 + i]'(by rw [upM_length l hi]; omega)) := List.getElem?_eq_getElem _
      rw [hcl] at hc
      generalize (upM l i)[1 + i]'(by rw [upM_length l hi]; omega) = old at hc
      have hf := frozen_of_row wo g3 (1 + i) _ _ HROW.out
      have hst := Go.Joins.block_setCell (i := 1 + i) HROW.out (uv (wordN l (8 * (1 + i)) 8))
      rw [List.setIfInBounds_toArray, upM_step l hil] at hst
      have RL := Lib.hid (show RdmRel l g g3 w2 (.int .i64 ((i + 1 : Nat) : Int)) (wo.setCell ⟨g3, 1 + i, none⟩ (.int .u64 ((wordN l (8 * (1 + i)) 8 : Nat) : Int))) from ⟨i + 1, rfl, by omega, hst, HF.out.setCell (p := ⟨g3, 1 + i, none⟩) (.inl rfl) _⟩)
      clear hst hcl SW
      go_wp2_with fail
      refine WD.out.mono ?_
      rintro e w' ⟨rfl, rfl⟩
      go_wp2_with fail
      exact ⟨RL.out, by simp [intOf]; omega⟩
    · obtain rfl : i = 6 := by omega
      rw [show ((6 : Nat) : Int) = 6 from rfl]
      have hr6 := HROW.out
      rw [upM_end] at hr6
      have HC := Lib.hid (show ∀ j v, (readM l).cells[j]? = some v → wo.cell? ((⟨g3, 0, none⟩ : Addr).add j) = some v from fun j v hv => by
        rw [Addr.add_mid, cell_of_row wo g3 (0 + j) _ _ _ hr6, Nat.zero_add]
        simpa using hv)
      have HSZ := Lib.hid (Try.markSize (readM_ok l))
      have HSZ2 := Lib.hid (show (Try.prog.info? 34).map (·.size) = some (readM l).cells.toArray.size by rw [List.size_toArray]; exact Try.markSize (readM_ok l))
      have HR6 := Lib.hid ((HF.out.block w.heap.size (lt_of_row HR2.out) GNE.out.2.1).trans HR2.out)
      have HB6 := Lib.hid (HB2.out.trans (HF.out.below (B := w.heap.size) (fun i _ e => by have := GNE.out; omega) HB2.out.size))
      have HSO := Lib.hid (show (#[Value.int .u64 0, .int .u64 0, .int .u64 0, .int .u64 0, .int .u64 0, .int .u64 0, .int .u64 0] : Array Value).size = (readM l).cells.toArray.size by show 7 = _; rw [List.size_toArray, MkD.cells_length (readM_ok l)])
      clear hr6
      go_wp2_with (first
        | (with_reducible show wpList _ _ _ _ _ _; refine wpList_load_all rfl 34 (.tmp 3) rfl ⟨g3, 0, none⟩ rfl (readM l).cells _ HC.out Try.underlying34 rfl HSZ.out ?_)
        | (with_reducible show wpList _ _ _ _ _ _; refine wpList_store_whole rfl 34 (.tmp 2) (.tmp 20) rfl w.heap.size 34 _ (readM l).cells.toArray rfl rfl HR6.out HSZ2.out HSO.out (readM l).cells_one ?_))
      refine bodyPost_ret (results_cell_row rfl _ _ w.heap.size 34 _ (0, 0) _ rfl (setRow_heap wo _ _ _ _ (0, 0) HR6.out) Try.underlying34 rfl HSZ2.out) rfl ⟨rfl, ?_⟩
      exact below_setRow HB6.out (Nat.le_refl _) _
end Go.Proofs.Ytgbmkolpdnenlaa.Dk
