/- DateOf, and the reference's. -/
import Derived.Test.YthebkckcnmjehaaDoorCb
import Derived.Lib.SmallJoins
namespace Go.Proofs.YthebkckcnmjehaaDoor
open Go Go.RowKit
set_option linter.unusedVariables false
set_option linter.unusedSimpArgs false
def zDate : List Value := [.int .i64 0, .int .i64 0, .int .i64 0, .int .i64 0, .int .i64 0, .int .i64 0]
def DateD.list (D : DateD) : List Value := [.int .i64 (D.y : Int), .int .i64 (D.m : Int), .int .i64 (D.d : Int), .int .i64 (D.h : Int), .int .i64 (D.mi : Int), .int .i64 (D.w : Int)]
theorem DateD.one (D : DateD) : D.list.toArray.all (·.oneCell') = true := all_oneCell_toArray (by
  intro u hu
  simp only [DateD.list, List.mem_cons, List.not_mem_nil, or_false] at hu
  rcases hu with rfl | rfl | rfl | rfl | rfl | rfl <;> rfl)
theorem DateD.cells_eq (D : DateD) : D.cells = D.list.toArray := rfl
/-- What DateOf answers. -/
def dateL (t : Int) : List Value := if t < 0 ∨ 4294967296 < t then zDate else (dateN t.toNat).list
def dateE (t : Int) : Int := if t < 0 ∨ 4294967296 < t then 1 else 0
theorem dateOf_any (t : Int) (ht : -9223372036854775808 ≤ t ∧ t ≤ 9223372036854775807) (w : World) (hT : CT w) : Calls Tryd.prog 13 #[.int .i64 t] w fun e w' => e = .returned (.tuple #[.agg (dateL t).toArray, .int .i64 (dateE t)]) ∧ Below w.heap.size w w' := by
  obtain ⟨g, hg⟩ : ∃ g, g = w.heap.size := ⟨_, rfl⟩
  obtain ⟨w2, hw2⟩ : ∃ w2, w2 = w.alloc (.cells zDate.toArray 32) := ⟨_, rfl⟩
  have hb2 : Below w.heap.size w w2 := by rw [hw2]; exact (Below.refl _ _).alloc (Nat.le_refl _) _
  have n2 : w2.heap[g]? = some (.cells zDate.toArray 32 (0, 0)) := by rw [hw2, hg]; exact heap_alloc_new _ _
  have HB2 := Lib.hid hb2
  have N2 := Lib.hid n2
  have HW2 := Lib.hid hw2
  have HG := Lib.hid hg
  have HT := Lib.hid (hT.below hb2 (Nat.le_refl _))
  clear hT hg hw2 hb2 n2
  by_cases hbad : t < 0 ∨ 4294967296 < t
  · have SZ := Lib.hid (show (Tryd.prog.info? 32).map (·.size) = some (zDate.toArray : Array Value).size by kernel_rfl)
    have hL : dateL t = zDate := by unfold dateL; rw [if_pos hbad]
    have hE : dateE t = 1 := by unfold dateE; rw [if_pos hbad]
    rw [hL, hE]
    clear hL hE
    go_enter Tryd.func13, Tryd.ntmps13
    go_upto_region 1 with fail
    rw [show (#[.int .i64 0, .int .i64 0, .int .i64 0, .int .i64 0, .int .i64 0, .int .i64 0] : Array Value) = zDate.toArray from rfl, ← HW2.out, ← HG.out]
    rcases hbad with h | h
    · go_wp2_with (with_reducible show wpList _ _ _ _ _ _; refine wpList_store_whole rfl 32 (.tmp 2) (.tmp 10) rfl g 32 _ zDate.toArray (by with_unfolding_all rfl) (by with_unfolding_all rfl) N2.out SZ.out rfl (by kernel_rfl) ?_)
      refine bodyPost_ret (results_row_tmp rfl _ _ g 32 zDate (0, 0) _ _ rfl rfl (setRow_heap _ g _ _ _ _ N2.out) Tryd.underlying32 rfl SZ.out) rfl ?_
      exact ⟨rfl, below_setRow HB2.out (Nat.le_of_eq HG.out.symm) _⟩
    · have h2 : ¬ t < 0 := by omega
      go_wp2_with (with_reducible show wpList _ _ _ _ _ _; refine wpList_store_whole rfl 32 (.tmp 2) (.tmp 10) rfl g 32 _ zDate.toArray (by with_unfolding_all rfl) (by with_unfolding_all rfl) N2.out SZ.out rfl (by kernel_rfl) ?_)
      refine bodyPost_ret (results_row_tmp rfl _ _ g 32 zDate (0, 0) _ _ rfl rfl (setRow_heap _ g _ _ _ _ N2.out) Tryd.underlying32 rfl SZ.out) rfl ?_
      exact ⟨rfl, below_setRow HB2.out (Nat.le_of_eq HG.out.symm) _⟩
  · have hL : dateL t = (dateN t.toNat).list := by unfold dateL; rw [if_neg hbad]
    have hE : dateE t = 0 := by unfold dateE; rw [if_neg hbad]
    rw [hL, hE]
    obtain ⟨n, rfl⟩ : ∃ n : Nat, t = (n : Int) := ⟨t.toNat, by omega⟩
    rw [Int.toNat_natCast]
    have h1 : ¬ (n : Int) < 0 := by omega
    have h2 : ¬ (4294967296 : Int) < (n : Int) := by omega
    have dc := date_any n (by omega) (by omega) w2 HT.out
    rw [DateD.cells_eq] at dc
    obtain ⟨L, hLL⟩ : ∃ L, L = (dateN n).list := ⟨_, rfl⟩
    rw [← hLL] at dc ⊢
    have SZ := Lib.hid (show (Tryd.prog.info? 32).map (·.size) = some (L.toArray : Array Value).size by rw [hLL]; kernel_rfl)
    have SZ6 := Lib.hid (show zDate.toArray.size = L.toArray.size by rw [hLL]; rfl)
    have SO := Lib.hid (show L.toArray.all (·.oneCell') = true by rw [hLL]; exact (dateN n).one)
    have DC := Lib.hid dc
    clear hL hE hLL dc hbad
    go_enter Tryd.func13, Tryd.ntmps13
    go_upto_region 1 with fail
    rw [show (#[.int .i64 0, .int .i64 0, .int .i64 0, .int .i64 0, .int .i64 0, .int .i64 0] : Array Value) = zDate.toArray from rfl, ← HW2.out, ← HG.out]
    go_wp2_with fail
    refine DC.out.mono ?_
    rintro e w3 ⟨rfl, hb3⟩
    have N3 := Lib.hid ((hb3.block g (lt_of_rowW N2.out)).trans N2.out)
    have HB3 := Lib.hid (HB2.out.trans (hb3.mono HB2.out.size))
    clear hb3
    go_wp2_with (with_reducible show wpList _ _ _ _ _ _; refine wpList_store_whole rfl 32 (.tmp 2) (.tmp 12) rfl g 32 _ L.toArray rfl rfl N3.out SZ.out SZ6.out SO.out ?_)
    refine bodyPost_ret (results_row_tmp rfl _ _ g 32 L (0, 0) _ _ rfl rfl (setRow_heap _ g _ _ _ _ N3.out) Tryd.underlying32 rfl (by rw [SZ.out, List.size_toArray])) rfl ?_
    exact ⟨rfl, below_setRow HB3.out (Nat.le_of_eq HG.out.symm) _⟩
set_option maxRecDepth 10000 in
set_option maxHeartbeats 4000000 in
theorem refDate_any (t : Nat) (ht : t ≤ 4294967296) (w : World) : Calls Tryd.prog 16 #[.int .i64 (t : Int)] w fun e w' => e = .returned (.agg (dateN t).list.toArray) ∧ Below w.heap.size w w' := by
  rw [← refN_eq t]
  obtain ⟨yoe, doy, era, M, h1, h2, h3, h4, h5, h6, h7, h8⟩ := ref_parts (t / 1440)
  clear h6 h7 h8 M
  obtain ⟨mp, hmp⟩ : ∃ mp, mp = (5 * doy + 2) / 153 := ⟨_, rfl⟩
  obtain ⟨dd, hdd⟩ : ∃ dd, dd = doy - (153 * mp + 2) / 5 := ⟨_, rfl⟩
  obtain ⟨T, hT⟩ : ∃ T, T = t / 1440 := ⟨_, rfl⟩
  have hms := months_sub doy h2
  have hml := months_le doy h2
  have hR : refN t = ⟨if 12 < mp + 3 then yoe + 400 * era + 1 else yoe + 400 * era, if 12 < mp + 3 then mp + 3 - 12 else mp + 3, dd + 1, t / 60 % 24, t % 60, (T + 6) % 7⟩ := by
    unfold refN
    simp only [h3, h4, h5, Nat.add_sub_cancel_left]
    rw [hdd, hmp, hT]
  rw [hR]
  rw [← hT] at h3 h4
  rw [← hmp] at hms hml
  obtain ⟨doe, hdoe⟩ : ∃ doe, doe = sM yoe + doy := ⟨_, rfl⟩
  rw [← hdoe] at h4 h5
  have hT2 : T ≤ 2982616 := by omega
  have he : era ≤ 100 := by omega
  have hdoe2 : doe < 146097 := by rw [← h4]; exact Nat.mod_lt _ (by decide)
  have hS : sM yoe = 365 * yoe + yoe / 4 - yoe / 100 := rfl
  have e1 : (t : Int) / 1440 = (T : Int) := by omega
  obtain ⟨z, hz⟩ : ∃ z, z = T + 730425 := ⟨_, rfl⟩
  have e2 : (T : Int) + 730425 = (z : Int) := by omega
  rw [← hz] at h3 h4
  have e3 : (z : Int) / 146097 = (era : Int) := by omega
  have e4 : (z : Int) % 146097 = (doe : Int) := by omega
  have e5 : ((doe : Int) - (doe : Int) / 1460 + (doe : Int) / 36524 - (doe : Int) / 146096) / 365 = (yoe : Int) := by
    unfold fY at h5
    omega
  have e6 : (doe : Int) - (365 * (yoe : Int) + (yoe : Int) / 4 - (yoe : Int) / 100) = (doy : Int) := by omega
  have e7 : (5 * (doy : Int) + 2) / 153 = (mp : Int) := by omega
  have e8 : (doy : Int) - (153 * (mp : Int) + 2) / 5 = (dd : Int) := by omega
  have e9 : (t : Int) / 60 % 24 = ((t / 60 % 24 : Nat) : Int) := by omega
  have e10 : (t : Int) % 60 = ((t % 60 : Nat) : Int) := by omega
  have e11 : ((T : Int) + 6) % 7 = (((T + 6) % 7 : Nat) : Int) := by omega
  obtain ⟨hh, hhh⟩ : ∃ hh, hh = t / 60 % 24 := ⟨_, rfl⟩
  obtain ⟨mi, hmi⟩ : ∃ mi, mi = t % 60 := ⟨_, rfl⟩
  obtain ⟨wk, hwk⟩ : ∃ wk, wk = (T + 6) % 7 := ⟨_, rfl⟩
  rw [← hhh] at e9 ⊢
  rw [← hmi] at e10 ⊢
  rw [← hwk] at e11 ⊢
  have hz2 : z ≤ 3713041 := by omega
  have hdd2 : dd ≤ 366 := by omega
  have hmp2 : mp ≤ 11 := by omega
  clear h3 h4 h5 hT hmp hdd hms hml hR hdoe hS hz hhh hmi hwk
  obtain ⟨g, hg⟩ : ∃ g, g = w.heap.size := ⟨_, rfl⟩
  obtain ⟨w2, hw2⟩ : ∃ w2, w2 = w.alloc (.cells zDate.toArray 37) := ⟨_, rfl⟩
  have hb2 : Below w.heap.size w w2 := by rw [hw2]; exact (Below.refl _ _).alloc (Nat.le_refl _) _
  have n2 : w2.heap[g]? = some (.cells zDate.toArray 37 (0, 0)) := by rw [hw2, hg]; exact heap_alloc_new _ _
  have HB2 := Lib.hid hb2
  have N2 := Lib.hid n2
  have HW2 := Lib.hid hw2
  have HG := Lib.hid hg
  obtain ⟨row, hrow⟩ : ∃ row : Array Value, row = #[.int .i64 ((yoe : Int) + 400 * (era : Int)), .int .i64 ((mp : Int) + 3), .int .i64 ((dd : Int) + 1), .int .i64 (hh : Int), .int .i64 (mi : Int), .int .i64 0] := ⟨_, rfl⟩
  obtain ⟨k, hk⟩ : ∃ k, k = w2.heap.size := ⟨_, rfl⟩
  obtain ⟨w4, hw4⟩ : ∃ w4, w4 = w2.alloc (.cells row 37) := ⟨_, rfl⟩
  have hb4 : Below w2.heap.size w2 w4 := by rw [hw4]; exact (Below.refl _ _).alloc (Nat.le_refl _) _
  have n4 : w4.heap[k]? = some (.cells row 37 (0, 0)) := by rw [hw4, hk]; exact heap_alloc_new _ _
  have HB4 := Lib.hid hb4
  have N4 := Lib.hid n4
  have HW4 := Lib.hid hw4
  have HK := Lib.hid hk
  have SZ := Lib.hid (show (Tryd.prog.info? 37).map (·.size) = some row.size by rw [hrow]; kernel_rfl)
  have S6 := Lib.hid (show zDate.toArray.size = row.size by rw [hrow]; rfl)
  have SO := Lib.hid (show row.all (·.oneCell') = true by rw [hrow]; exact all_oneCell_toArray (by intro u hu; simp only [List.mem_cons, List.not_mem_nil, or_false] at hu; rcases hu with rfl | rfl | rfl | rfl | rfl | rfl <;> rfl))
  have HROW := Lib.hid hrow
  clear hg hw2 hb2 n2 hk hw4 hb4 n4 hrow
  go_enter Tryd.func16, Tryd.ntmps16
  go_upto_region 1 with fail
  rw [show (#[.int .i64 0, .int .i64 0, .int .i64 0, .int .i64 0, .int .i64 0, .int .i64 0] : Array Value) = zDate.toArray from rfl, ← HW2.out, ← HG.out]
  go_upto_region 9 with (with_reducible show wpList _ _ _ _ _ _; refine wpList_store_newW rfl 37 (.tmp 10) (.tmp 62) rfl 37 _ row (by with_unfolding_all rfl) (by with_unfolding_all exact congrArg Value.agg HROW.out.symm) SZ.out (by with_unfolding_all exact S6.out) SO.out ?_; rw [← HW4.out, ← HK.out])
  simp only [Act.put]
  have HNG := Lib.hid (show w4.heap[g]? = some (.cells zDate.toArray 37 (0, 0)) from (HB4.out.block g (lt_of_rowW N2.out)).trans N2.out)
  have HNE := Lib.hid (show g ≠ k by have := lt_of_rowW N2.out; have := HK.out; omega)
  have HKB := Lib.hid (show w.heap.size ≤ k by have := HB2.out.size; have := HK.out; omega)
  have HBW := Lib.hid (HB2.out.trans (HB4.out.mono HB2.out.size))
  have hc : ∀ j, w4.cell? ⟨k, j, none⟩ = row[j]? := fun j => cell_of_rowW w4 k j _ _ _ N4.out
  have c0 := hc 0
  have c1 := hc 1
  have c5 := hc 5
  rw [HROW.out] at c0 c1 c5
  have f0 := frozen_of_row w4 k 0 _ _ N4.out
  have f1 := frozen_of_row w4 k 1 _ _ N4.out
  have f5 := frozen_of_row w4 k 5 _ _ N4.out
  simp only [List.getElem?_toArray, List.getElem?_cons_zero, List.getElem?_cons_succ] at c0 c1 c5
  clear hc
  by_cases hm12 : 12 < mp + 3
  · have hgt : (12 : Int) < (mp : Int) + 3 := by omega
    obtain ⟨LF, hLF⟩ : ∃ LF : List Value, LF = [.int .i64 ((yoe : Int) + 400 * (era : Int) + 1), .int .i64 ((mp : Int) + 3 - 12), .int .i64 ((dd : Int) + 1), .int .i64 (hh : Int), .int .i64 (mi : Int), .int .i64 (wk : Int)] := ⟨_, rfl⟩
    obtain ⟨wE, hwE⟩ : ∃ wE, wE = ((w4.setCell ⟨k, 1, none⟩ (.int .i64 ((mp : Int) + 3 - 12))).setCell ⟨k, 0, none⟩ (.int .i64 ((yoe : Int) + 400 * (era : Int) + 1))).setCell ⟨k, 5, none⟩ (.int .i64 (wk : Int)) := ⟨_, rfl⟩
    have HKE := Lib.hid (show wE.heap[k]? = some (.cells LF.toArray 37 (0, 0)) from by rw [hwE]; have a1 := Go.Joins.block_setCell (i := 5) (Go.Joins.block_setCell (i := 0) (Go.Joins.block_setCell (i := 1) N4.out (.int .i64 ((mp : Int) + 3 - 12))) (.int .i64 ((yoe : Int) + 400 * (era : Int) + 1))) (.int .i64 (wk : Int)); rw [HROW.out] at a1; rw [hLF]; exact a1)
    have NE := Lib.hid (show wE.heap[g]? = some (.cells zDate.toArray 37 (0, 0)) from by rw [hwE, Below.heap_setCell _ _ _ _ HNE.out, Below.heap_setCell _ _ _ _ HNE.out, Below.heap_setCell _ _ _ _ HNE.out]; exact HNG.out)
    have HBE := Lib.hid (show Below w.heap.size w wE from by rw [hwE]; exact ((HBW.out.setCell HKB.out _).setCell HKB.out _).setCell HKB.out _)
    have SZF := Lib.hid (show (Tryd.prog.info? 37).map (·.size) = some LF.length by rw [hLF]; kernel_rfl)
    have SZF2 := Lib.hid (show (Tryd.prog.info? 37).map (·.size) = some LF.toArray.size by rw [hLF]; kernel_rfl)
    have S6F := Lib.hid (show zDate.toArray.size = LF.toArray.size by rw [hLF]; rfl)
    have SOF := Lib.hid (show LF.toArray.all (·.oneCell') = true by rw [hLF]; exact all_oneCell_toArray (by intro u hu; simp only [List.mem_cons, List.not_mem_nil, or_false] at hu; rcases hu with rfl | rfl | rfl | rfl | rfl | rfl <;> rfl))
    have HLFE := Lib.hid (show LF = DateD.list ⟨yoe + 400 * era + 1, mp + 3 - 12, dd + 1, hh, mi, wk⟩ by
      rw [hLF]
      simp only [DateD.list]
      rw [show ((yoe + 400 * era + 1 : Nat) : Int) = ((yoe : Int) + 400 * (era : Int) + 1) by omega, show ((mp + 3 - 12 : Nat) : Int) = ((mp : Int) + 3 - 12) by omega, show ((dd + 1 : Nat) : Int) = (dd : Int) + 1 by omega])
    have HWE := Lib.hid hwE
    clear hLF hwE
    go_upto_region 13 with fail
    rw [← HWE.out]
    have HLF := Lib.hid (show ∀ j u, LF[j]? = some u → wE.cell? ((⟨k, 0, none⟩ : Addr).add j) = some u from fun j u hu => by
      rw [Addr.add_mid, Nat.zero_add, cell_of_rowW wE k j _ _ _ HKE.out]
      simpa using hu)
    go_wp2_with (first
      | (with_reducible show wpList _ _ _ _ _ _; refine wpList_load_allW rfl 37 (.tmp 10) rfl ⟨k, 0, none⟩ rfl LF _ HLF.out Tryd.underlying37 rfl SZF.out ?_)
      | (with_reducible show wpList _ _ _ _ _ _; refine wpList_store_whole rfl 37 (.tmp 2) (.tmp 78) rfl g 37 _ LF.toArray rfl rfl NE.out SZF2.out (by with_unfolding_all exact S6F.out) SOF.out ?_))
    refine bodyPost_ret (results_cell_row rfl _ _ g 37 LF.toArray (0, 0) _ rfl (setRow_heap _ g _ _ _ _ NE.out) Tryd.underlying37 rfl SZF2.out) rfl ?_
    refine ⟨?_, below_setRow HBE.out (Nat.le_of_eq HG.out.symm) _⟩
    rw [HLFE.out, show mp + 3 - 12 = mp - 9 by omega]
  · have hgt : ¬ (12 : Int) < (mp : Int) + 3 := by omega
    obtain ⟨LF, hLF⟩ : ∃ LF : List Value, LF = [.int .i64 ((yoe : Int) + 400 * (era : Int)), .int .i64 ((mp : Int) + 3), .int .i64 ((dd : Int) + 1), .int .i64 (hh : Int), .int .i64 (mi : Int), .int .i64 (wk : Int)] := ⟨_, rfl⟩
    obtain ⟨wE, hwE⟩ : ∃ wE, wE = w4.setCell ⟨k, 5, none⟩ (.int .i64 (wk : Int)) := ⟨_, rfl⟩
    have HKE := Lib.hid (show wE.heap[k]? = some (.cells LF.toArray 37 (0, 0)) from by rw [hwE]; have a1 := Go.Joins.block_setCell (i := 5) N4.out (.int .i64 (wk : Int)); rw [HROW.out] at a1; rw [hLF]; exact a1)
    have NE := Lib.hid (show wE.heap[g]? = some (.cells zDate.toArray 37 (0, 0)) from by rw [hwE, Below.heap_setCell _ _ _ _ HNE.out]; exact HNG.out)
    have HBE := Lib.hid (show Below w.heap.size w wE from by rw [hwE]; exact HBW.out.setCell HKB.out _)
    have SZF := Lib.hid (show (Tryd.prog.info? 37).map (·.size) = some LF.length by rw [hLF]; kernel_rfl)
    have SZF2 := Lib.hid (show (Tryd.prog.info? 37).map (·.size) = some LF.toArray.size by rw [hLF]; kernel_rfl)
    have S6F := Lib.hid (show zDate.toArray.size = LF.toArray.size by rw [hLF]; rfl)
    have SOF := Lib.hid (show LF.toArray.all (·.oneCell') = true by rw [hLF]; exact all_oneCell_toArray (by intro u hu; simp only [List.mem_cons, List.not_mem_nil, or_false] at hu; rcases hu with rfl | rfl | rfl | rfl | rfl | rfl <;> rfl))
    have HLFE := Lib.hid (show LF = DateD.list ⟨yoe + 400 * era, mp + 3, dd + 1, hh, mi, wk⟩ by
      rw [hLF]
      simp only [DateD.list]
      rw [show ((yoe + 400 * era : Nat) : Int) = ((yoe : Int) + 400 * (era : Int)) by omega, show ((mp + 3 : Nat) : Int) = ((mp : Int) + 3) by omega, show ((dd + 1 : Nat) : Int) = (dd : Int) + 1 by omega])
    have HWE := Lib.hid hwE
    clear hLF hwE
    go_upto_region 13 with fail
    rw [← HWE.out]
    have HLF := Lib.hid (show ∀ j u, LF[j]? = some u → wE.cell? ((⟨k, 0, none⟩ : Addr).add j) = some u from fun j u hu => by
      rw [Addr.add_mid, Nat.zero_add, cell_of_rowW wE k j _ _ _ HKE.out]
      simpa using hu)
    go_wp2_with (first
      | (with_reducible show wpList _ _ _ _ _ _; refine wpList_load_allW rfl 37 (.tmp 10) rfl ⟨k, 0, none⟩ rfl LF _ HLF.out Tryd.underlying37 rfl SZF.out ?_)
      | (with_reducible show wpList _ _ _ _ _ _; refine wpList_store_whole rfl 37 (.tmp 2) (.tmp 78) rfl g 37 _ LF.toArray rfl rfl NE.out SZF2.out (by with_unfolding_all exact S6F.out) SOF.out ?_))
    refine bodyPost_ret (results_cell_row rfl _ _ g 37 LF.toArray (0, 0) _ rfl (setRow_heap _ g _ _ _ _ NE.out) Tryd.underlying37 rfl SZF2.out) rfl ?_
    refine ⟨?_, below_setRow HBE.out (Nat.le_of_eq HG.out.symm) _⟩
    rw [HLFE.out]
end Go.Proofs.YthebkckcnmjehaaDoor
