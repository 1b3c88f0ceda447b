/- A mark's sector: what place, lay and read do. -/
import Derived.Test.YtgbmkolpdnenlaaMa
import Derived.Test.YtgbmkolpdnenlaaDj
import Derived.Laws.CopyOwn
import Derived.OwnWalk
namespace Go.Proofs.Ytgbmkolpdnenlaa.Dk
open Go Go.RowKit
set_option linter.unusedVariables false
set_option linter.unusedSimpArgs false

/-- A mark: its number and its six words. -/
structure MkD where
  seq : Nat
  W : List Nat
def uv (n : Nat) : Value := .int .u64 (n : Int)
def MkD.cells (m : MkD) : List Value := uv m.seq :: m.W.map uv
structure MkD.Ok (m : MkD) : Prop where
  seq : m.seq < 18446744073709551616
  len : m.W.length = 6
  W : ∀ n ∈ m.W, n < 18446744073709551616
theorem MkD.cells_length {m : MkD} (h : m.Ok) : m.cells.length = 7 := by simp [MkD.cells, h.len]
theorem Try.markSize {m : MkD} (h : m.Ok) : (Try.prog.info? 34).map (·.size) = some m.cells.length := by rw [m.cells_length h]; kernel_rfl
theorem uv_one (l : List Nat) : ∀ u ∈ l.map uv, u.oneCell' = true := by
  intro u hu
  obtain ⟨_, _, rfl⟩ := List.mem_map.1 hu
  rfl
theorem MkD.cells_one (m : MkD) : m.cells.toArray.all (·.oneCell') = true := all_oneCell_toArray (by
  intro v hv
  rcases List.mem_cons.1 hv with rfl | hv
  · rfl
  · exact uv_one _ v hv)
theorem ret_i64m {a b : Int} (h : a = b) : Ending.returned (.int .i64 a) = Ending.returned (.int .i64 b) := by rw [h]
set_option maxRecDepth 100000 in
theorem place_any (m : MkD) (h : m.Ok) (w : World) : Calls Try.prog 36 #[.agg m.cells.toArray] w fun e w' => e = .returned (.int .i64 ((m.seq % 2 : Nat) : Int)) ∧ Below w.heap.size w w' := by
  have q0 : (w.alloc (.cells m.cells.toArray 34)).cell? ⟨w.heap.size, 0, none⟩ = some (.int .u64 (m.seq : Int)) := by rw [cell_of_row _ w.heap.size 0 _ _ _ (heap_alloc_new w _)]; rfl
  have HB := Lib.hid (show Below w.heap.size w (w.alloc (.cells m.cells.toArray 34)) from (Below.refl _ _).alloc (Nat.le_refl _) _)
  have hs := Lib.hid h.seq
  clear h
  go_enter Try.func36, Try.ntmps36
  go_wp2_with fail
  go_ret
  exact ⟨ret_i64m (by omega), HB.out⟩
/-- The first words of a mark, each in eight bytes. -/
def bodyM (m : MkD) (i : Nat) : List UInt8 := leTo m.seq 8 ++ ((m.W.take i).map (leTo · 8)).flatten
/-- A mark's sector. -/
def layM (m : MkD) : List UInt8 := bodyM m 6 ++ bodyM m 6 ++ List.replicate 16 0
theorem flat8_length : ∀ L : List Nat, ((L.map (leTo · 8)).flatten).length = 8 * L.length
  | [] => rfl
  | n :: L => by
    rw [List.map_cons, List.flatten_cons, List.length_append, leTo_length, flat8_length L, List.length_cons]
    omega
theorem bodyM_length {m : MkD} (h : m.W.length = 6) {i : Nat} (hi : i ≤ 6) : (bodyM m i).length = 8 * (1 + i) := by
  unfold bodyM
  rw [List.length_append, leTo_length, flat8_length, List.length_take]
  omega
theorem layM_length {m : MkD} (h : m.W.length = 6) : (layM m).length = 128 := by
  unfold layM
  rw [List.length_append, List.length_append, bodyM_length h (Nat.le_refl _), List.length_replicate]
theorem lay8_zeros {p b : List UInt8} {k : Nat} (hb : b.length ≤ k) : lay8 (p ++ List.replicate k 0) p.length b = (p ++ b) ++ List.replicate (k - b.length) 0 := by
  unfold lay8
  rw [List.take_left, List.append_assoc]
  congr 2
  rw [← List.drop_drop, List.drop_left, List.drop_replicate]
theorem bodyM_succ {m : MkD} {i : Nat} (hi : i < m.W.length) : bodyM m (i + 1) = bodyM m i ++ leTo (m.W.getD i 0) 8 := by
  unfold bodyM
  rw [List.take_add_one, List.map_append, List.flatten_append, List.getElem?_eq_getElem hi]
  simp [List.getD, hi, List.append_assoc]
theorem Try.infoU64 : (Try.prog.info? 28).map (fun i => (i.zero, i.size, i.bytes)) = some (some (.int .u64 0), 1, 8) := by kernel_rfl
theorem index_a6 (cs : Array Value) (i : Nat) (u : Value) (hi : i < 6) (hs : cs.size = 6) (h : cs[i]? = some u) (k : IntKind) (w : World) : (Instr.index 32 (.agg cs) (.int k (i : Int))).run Try.prog w = .ok u w := by
  have hu : Try.prog.underlying 32 = some (.array 6 28) := by kernel_rfl
  obtain ⟨i0, hi0, hz0, hz1, hz2⟩ := info_parts Try.infoU64
  have hi' : i < cs.size := by omega
  have hv : cs[i] = u := by rw [Array.getElem?_eq_getElem hi'] at h; exact Option.some.inj h
  simp [Instr.index, run_underlying hu, asIntOf, go_sem, hi, sizeOf, typeInfo, hi0, hz1, hv, hi']
def LyRel (m : MkD) (g1 g3 : Nat) (w3 : World) (u : Value) (wr : World) : Prop := ∃ i : Nat, u = .int .i64 (i : Int) ∧ i ≤ 6 ∧ SecAt wr g3 (bodyM m i ++ List.replicate (128 - 8 * (1 + i)) 0) ∧ Frm (fun k => k = g3) w3 wr
set_option maxRecDepth 100000 in
set_option maxHeartbeats 4000000 in
theorem lay_any (m : MkD) (h : m.Ok) (w : World) : Calls Try.prog 64 #[.agg m.cells.toArray] w fun e w' => e = .returned (.agg (bvs (layM m)).toArray) ∧ Below w.heap.size w w' := by
  have hm0 : m.cells[0]? = some (.int .u64 (m.seq : Int)) := rfl
  have hz : Try.zeroCells93 = (bvs zeros).toArray := by kernel_rfl
  obtain ⟨g3, hg3⟩ : ∃ g3, g3 = w.heap.size + 1 + 1 := ⟨_, rfl⟩
  obtain ⟨w3, hw3⟩ : ∃ w3, w3 = ((w.alloc (.cells m.cells.toArray 34)).alloc (.cells Try.zeroCells93 93)).alloc (.cells Try.zeroCells93 93) := ⟨_, rfl⟩
  have e1 : (w.alloc (.cells m.cells.toArray 34)).heap.size = w.heap.size + 1 := Array.size_push _
  have e2 : ((w.alloc (.cells m.cells.toArray 34)).alloc (.cells Try.zeroCells93 93)).heap.size = w.heap.size + 1 + 1 := by rw [← e1]; exact Array.size_push _
  have hr3 : SecAt w3 g3 zeros := ⟨by rw [hw3, hg3, ← e2, hz]; exact heap_alloc_new _ _, zeros_length⟩
  have hr2 : w3.heap[w.heap.size + 1]? = some (.cells (bvs zeros).toArray 93 (0, 0)) := by
    rw [hw3, Below.heap_alloc _ _ _ (by rw [e2]; omega), ← e1, hz]
    exact heap_alloc_new _ _
  have hr1 : w3.heap[w.heap.size]? = some (.cells m.cells.toArray 34 (0, 0)) := by
    rw [hw3, Below.heap_alloc _ _ _ (by rw [e2]; omega), Below.heap_alloc _ _ _ (by rw [e1]; omega)]
    exact heap_alloc_new _ _
  have hb3 : Below w.heap.size w w3 := by rw [hw3]; exact (((Below.refl _ w).alloc (Nat.le_refl _) _).alloc (by rw [e1]; omega) _).alloc (by rw [e2]; omega) _
  have PW := Lib.hid (putWord_any hr3 0 m.seq (by decide) h.seq)
  have HR1 := Lib.hid hr1
  have HR2 := Lib.hid hr2
  have HB3 := Lib.hid hb3
  have HW3 := Lib.hid hw3
  have HG3 := Lib.hid hg3
  have HOK := Lib.hid h
  clear hr1 hr2 hr3 hb3 e1 e2 hz hw3 hg3 h
  go_enter Try.func64, Try.ntmps64
  go_wp2_with fail
  rw [← HW3.out, ← HG3.out]
  refine PW.out.mono ?_
  rintro e w4 ⟨rfl, hS4, hF4⟩
  have e4 : lay8 zeros 0 (leTo m.seq 8) = bodyM m 0 ++ List.replicate (128 - 8 * (1 + 0)) 0 := by
    have := lay8_zeros (p := []) (b := leTo m.seq 8) (k := 128) (by rw [leTo_length]; decide)
    rw [List.nil_append, List.nil_append, leTo_length] at this
    simpa [bodyM, zeros] using this
  rw [e4] at hS4
  have HLY := Lib.hid (show LyRel m w.heap.size g3 w4 (.int .i64 0) w4 from ⟨0, rfl, Nat.zero_le _, hS4, Frm.refl _ _⟩)
  have hr4 := (hF4.block w.heap.size (lt_of_row HR1.out) (fun e => by have := HG3.out; omega)).trans HR1.out
  have HR24 := Lib.hid ((hF4.block (w.heap.size + 1) (lt_of_row HR2.out) (fun e => by have := HG3.out; omega)).trans HR2.out)
  have HC := Lib.hid (show ∀ j v, (m.W.map uv)[j]? = some v → w4.cell? ((⟨w.heap.size, 1, none⟩ : Addr).add j) = some v from fun j v hv => by
    rw [Addr.add_mid, cell_of_row w4 w.heap.size (1 + j) _ _ _ hr4]
    simpa [MkD.cells, Nat.add_comm 1 j] using hv)
  have HZ := Lib.hid (show (Try.prog.info? 32).map (·.size) = some (m.W.map uv).length by rw [List.length_map, HOK.out.len]; kernel_rfl)
  have HB4 := Lib.hid (HB3.out.trans (hF4.below (B := w.heap.size) (fun i _ e => by have := HG3.out; omega) HB3.out.size))
  clear hS4 hF4 e4 hr4 PW hm0
  go_wp2_with (with_reducible show wpList _ _ _ _ _ _; refine wpList_load_all rfl 32 (.tmp 9) rfl ⟨w.heap.size, 1, none⟩ rfl (m.W.map uv) _ HC.out Try.underlying32 rfl HZ.out ?_)
  go_loopw [11] (fun u wr => LyRel m w.heap.size g3 w4 u wr) (fun u _ => 6 - (intOf u).toNat)
  case atStart => exact HLY.out
  case round =>
    obtain ⟨wo, rfl⟩ : ∃ wo : World, wo = wr := ⟨_, rfl⟩
    obtain ⟨i, rfl, hi, hS, hF⟩ := hrel
    have HS := Lib.hid hS
    have HF := Lib.hid hF
    clear hS hF HLY
    by_cases hil : i < 6
    · have hii : (i : Int) < 6 := by omega
      have hiw : i < m.W.length := by rw [HOK.out.len]; exact hil
      have hidx : (m.W.map uv)[i]? = some (.int .u64 ((m.W.getD i 0 : Nat) : Int)) := by simp [uv, List.getD, hiw]
      have hlt : m.W.getD i 0 < 18446744073709551616 := HOK.out.W _ (by simp [List.getD, hiw])
      have PW := Lib.hid (putWord_any HS.out (8 * (1 + i)) (m.W.getD i 0) (by omega) hlt)
      obtain ⟨wi, hwi⟩ : ∃ wi, wi = m.W.getD i 0 := ⟨_, rfl⟩
      rw [← hwi] at hidx PW
      rw [show ((8 * (1 + i) : Nat) : Int) = (1 + (i : Int)) * 8 by omega] at PW
      have HWI := Lib.hid hwi
      clear hlt hwi hiw
      have hix := index_a6 (m.W.map uv).toArray i (.int .u64 (wi : Int)) hil (by simp [HOK.out.len]) (by simpa using hidx) .i64 wo
      have hw8 : wrap64 (8 * (1 + (i : Int))) = 8 * (1 + (i : Int)) := by unfold wrap64; omega
      go_wp2_with fail
      refine PW.out.mono ?_
      rintro e w5 ⟨rfl, hS5, hF5⟩
      have e5 : lay8 (bodyM m i ++ List.replicate (128 - 8 * (1 + i)) 0) (8 * (1 + i)) (leTo wi 8) = bodyM m (i + 1) ++ List.replicate (128 - 8 * (1 + (i + 1))) 0 := by
        have hbl := bodyM_length (m := m) HOK.out.len (show i ≤ 6 by omega)
        have h1 := lay8_zeros (p := bodyM m i) (b := leTo wi 8) (k := 128 - 8 * (1 + i)) (by rw [leTo_length]; omega)
        rw [hbl, leTo_length] at h1
        rw [h1, bodyM_succ (by rw [HOK.out.len]; exact hil), ← HWI.out]
        congr 2
      rw [e5] at hS5
      have RL := Lib.hid (show LyRel m w.heap.size g3 w4 (.int .i64 ((i + 1 : Nat) : Int)) w5 from ⟨i + 1, rfl, by omega, hS5, HF.out.trans hF5⟩)
      clear hS5 hF5 e5 hix hidx
      go_wp2_with fail
      exact ⟨RL.out, by simp [intOf]; omega⟩
    · obtain rfl : i = 6 := by omega
      rw [show ((6 : Nat) : Int) = 6 from rfl]
      have hbl := bodyM_length (m := m) HOK.out.len (Nat.le_refl 6)
      have HBL := Lib.hid hbl
      clear hbl
      go_wp2_with fail
      (refine wp_region_quiet_tail 2 (by kernel_rfl) (by kernel_rfl) ?_; simp only [List.take_succ_cons, List.take_zero, List.drop_succ_cons, List.drop_zero]; (repeat (go_big_quiet_step (fail))); refine wpQuiet_nil ?_; intro _ hw'; obtain ⟨nq, hw''⟩ := hw'; subst hw'')
      have HS6 : SecAt (wo.drewN nq) g3 (bodyM m 6 ++ List.replicate (128 - 8 * (1 + 6)) 0) := HS.out
      have hn : (bvs (bodyM m 6)).length = Nat.min 56 72 := by rw [bvs_length, HBL.out]; rfl
      have hc : 0 < (bvs (bodyM m 6)).length → (some ⟨g3, 56, none⟩ : Option Addr) = some ⟨g3, 56, none⟩ ∧ ∃ ad, (some ⟨g3, 0, none⟩ : Option Addr) = some ad ∧ ∀ j v, (bvs (bodyM m 6))[j]? = some v → (wo.drewN nq).cell? (ad.add j) = some v := by
        intro _
        refine ⟨rfl, _, rfl, fun j v hv => ?_⟩
        rw [Addr.add_mid, cell_of_row (wo.drewN nq) g3 (0 + j) _ _ _ HS6.1, Nat.zero_add, bvs_append]
        have hj := (List.getElem?_eq_some_iff.1 hv).1
        simpa [List.getElem?_append_left hj] using hv
      have hf : 56 + (bvs (bodyM m 6)).length ≤ (bvs (bodyM m 6 ++ List.replicate (128 - 8 * (1 + 6)) 0)).length := by rw [hn, bvs_length, List.length_append, HBL.out, List.length_replicate]; decide
      have HN := Lib.hid hn
      have HCC := Lib.hid hc
      have HFF := Lib.hid hf
      have HSX := Lib.hid HS6
      have hr2 := HF.out.block (w.heap.size + 1) (lt_of_row HR24.out) (fun e => by have := HG3.out; omega)
      have HR2W := Lib.hid (hr2.trans HR24.out)
      have HBW := Lib.hid (HB4.out.trans (HF.out.below (B := w.heap.size) (fun i _ e => by have := HG3.out; omega) HB4.out.size))
      clear HS6 hn hc hf hr2
      refine wpList_copy_splice rfl (.tmp 21) (.tmp 22) 44 44 rfl 5 Try.underlying44 (by kernel_rfl) (some ⟨g3, 56, none⟩) (some ⟨g3, 0, none⟩) 72 72 56 128 rfl rfl g3 56 (bvs (bodyM m 6 ++ List.replicate (128 - 8 * (1 + 6)) 0)) 93 HSX.out.1 (bvs (bodyM m 6)) HN.out HCC.out HFF.out (bvs_one _) g3 (wo.drewN nq) (Below.refl _ _) (Nat.le_refl _) ?_
      intro w6 HG hb6
      have esp : splice (bvs (bodyM m 6 ++ List.replicate (128 - 8 * (1 + 6)) 0)) 56 (bvs (bodyM m 6)) = bvs (layM m) := by
        unfold splice layM
        rw [bvs_append, bvs_append, bvs_append, List.take_append_of_le_length (by rw [bvs_length, HBL.out]; decide), List.take_of_length_le (by rw [bvs_length, HBL.out]; decide)]
        rw [List.drop_append, bvs_length, HBL.out, List.drop_eq_nil_of_le (by rw [bvs_length, HBL.out]; decide), List.nil_append]
        rw [List.append_assoc]
        congr 2
      have hg6 := HG.out
      rw [esp] at hg6
      have hll := layM_length (m := m) HOK.out.len
      have HC6 := Lib.hid (show ∀ j v, (bvs (layM m))[j]? = some v → w6.cell? ((⟨g3, 0, none⟩ : Addr).add j) = some v from fun j v hv => by
        rw [Addr.add_mid, cell_of_row w6 g3 (0 + j) _ _ _ hg6, Nat.zero_add]
        simpa using hv)
      have HSZ := Lib.hid (show (Try.prog.info? 93).map (·.size) = some (bvs (layM m)).length by rw [bvs_length, hll]; kernel_rfl)
      have HSZ2 := Lib.hid (show (Try.prog.info? 93).map (·.size) = some (bvs (layM m)).toArray.size by rw [List.size_toArray, bvs_length, hll]; kernel_rfl)
      have HSO := Lib.hid (show (bvs zeros).toArray.size = (bvs (layM m)).toArray.size by rw [List.size_toArray, List.size_toArray, bvs_length, bvs_length, hll]; rfl)
      have HR6 := Lib.hid ((hb6.block (w.heap.size + 1) (by have := HG3.out; omega)).trans HR2W.out)
      have HB6 := Lib.hid ((below_drewN HBW.out nq).trans (hb6.mono (B' := w.heap.size) (by have := HG3.out; omega)))
      clear hg6 hll esp HG hb6
      go_wp2_with (first
        | (with_reducible show wpList _ _ _ _ _ _; refine wpList_load_all rfl 93 (.tmp 3) rfl ⟨g3, 0, none⟩ rfl (bvs (layM m)) _ HC6.out Try.underlying93 rfl HSZ.out ?_)
        | (with_reducible show wpList _ _ _ _ _ _; refine wpList_store_whole rfl 93 (.tmp 2) (.tmp 24) rfl (w.heap.size + 1) 93 (bvs zeros).toArray (bvs (layM m)).toArray rfl rfl HR6.out HSZ2.out HSO.out (all_bvs _) ?_))
      refine bodyPost_ret (results_cell_row rfl _ _ (w.heap.size + 1) 93 _ (0, 0) _ rfl (setRow_heap w6 _ _ _ _ (0, 0) HR6.out) Try.underlying93 rfl HSZ2.out) rfl ⟨rfl, ?_⟩
      exact below_setRow HB6.out (by omega) _
end Go.Proofs.Ytgbmkolpdnenlaa.Dk
