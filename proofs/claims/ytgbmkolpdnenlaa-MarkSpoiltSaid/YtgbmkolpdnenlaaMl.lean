/- The head of the statements of Mark: two marks, one behind the other. -/
import Derived.Test.YtgbmkolpdnenlaaMk
import Derived.Test.YtgbmkolpdnenlaaDn
namespace Go.Proofs.Ytgbmkolpdnenlaa.Dk
open Go Go.RowKit
set_option linter.unusedVariables false
set_option linter.unusedSimpArgs false
instance : DecidableEq MkD := fun a b => decidable_of_iff (a.seq = b.seq ∧ a.W = b.W) (by cases a; cases b; simp)
def mk1 : MkD := ⟨1, [5, 6, 0, 0, 0, 0]⟩
def mk2 : MkD := ⟨2, [7, 0, 0, 0, 0, 0]⟩
def mX1 : DS := ((DS.new 2).mark 0 mk1).2
def mX2 : DS := (mX1.mark 0 mk2).2
theorem m0_last : ((DS.new 2).lastMark 0).seq = 0 := by decide +kernel
theorem m0_next : (DS.new 2).next 0 [5, 6] = mk1 := by decide +kernel
theorem m0_code : ((DS.new 2).mark 0 mk1).1 = 0 := by decide +kernel
theorem m0_great : (DS.new 2).great 0 = 0 := by decide +kernel
theorem m1_next : mX1.next 0 [7] = mk2 := by decide +kernel
theorem m1_code : (mX1.mark 0 mk2).1 = 0 := by decide +kernel
theorem m1_great : mX1.great 0 = 1 := by decide +kernel
theorem m1_len : mX1.s.length = 2 := by decide +kernel
theorem m1_up : mX1.down = false := by decide +kernel
theorem m1_S (i : Int) : mX1.S i = none := by kernel_rfl
theorem m2_len : mX2.s.length = 2 := by decide +kernel
theorem m2_up : mX2.down = false := by decide +kernel
theorem m2_last : mX2.lastMark 0 = mk2 := by decide +kernel
set_option maxRecDepth 100000 in
set_option maxHeartbeats 4000000 in
theorem marks_any (w : World) : Calls Try.prog 10 #[] w fun e w' => e = .returned (.bool true) ∧ Below w.heap.size w w' := by
  have N := Lib.hid (new_any 2 (by decide) (by decide) w)
  go_enter Try.func10, Try.ntmps10
  go_wp2_with fail
  refine N.out.mono ?_
  rintro e w1 ⟨d, g, m, rfl, hD1, hb1, hd, hg, hm⟩
  have G1 := Lib.hid (get_ok hD1 0 (by simp [DS.new]) rfl)
  rw [m0_last, if_neg (by decide), if_neg (by decide)] at G1
  have HD1 := Lib.hid hD1
  have HB1 := Lib.hid hb1
  have HO := Lib.hid (show ∀ i, own3 d g m i → w.heap.size ≤ i from fun i e => by rcases e with e | e | e <;> omega)
  clear hD1 hb1 N
  go_wp2_with fail
  refine G1.out.mono ?_
  rintro e w2 ⟨rfl, hb2⟩
  have HD2 := Lib.hid (HD1.out.below hb2 (Nat.le_refl _))
  have HB2 := Lib.hid (HB1.out.trans (hb2.mono HB1.out.size))
  clear hb2 G1 HD1 HB1
  have HSM := Lib.hid (show (Try.prog.info? 34).map (·.size) = some noM.cells.toArray.size by rw [List.size_toArray]; exact Try.markSize noM_ok)
  go_wp2_with (with_reducible show wpList _ _ _ _ _ _; refine wpList_store_new rfl 34 (.tmp 3) (.tmp 20) rfl 34 _ noM.cells.toArray rfl rfl HSM.out rfl noM.cells_one ?_)
  obtain ⟨ka1, hka1⟩ : ∃ k, k = w2.heap.size := ⟨_, rfl⟩
  obtain ⟨kb1, hkb1⟩ : ∃ k, k = w2.heap.size + 1 := ⟨_, rfl⟩
  have ez1 : (w2.alloc (.cells noM.cells.toArray 34)).heap.size = w2.heap.size + 1 := Array.size_push _
  obtain ⟨wa1, hwa1⟩ : ∃ wa, wa = (w2.alloc (.cells noM.cells.toArray 34)).alloc (.cells #[.int .u64 5, .int .u64 6] 28) := ⟨_, rfl⟩
  have ba1 : Below w2.heap.size w2 wa1 := by rw [hwa1]; exact ((Below.refl _ _).alloc (Nat.le_refl _) _).alloc (by rw [ez1]; omega) _
  have ra1 : wa1.heap[ka1]? = some (.cells noM.cells.toArray 34 (0, 0)) := by rw [hwa1, hka1, Below.heap_alloc _ _ _ (by rw [ez1]; omega)]; exact heap_alloc_new _ _
  have rb1 : wa1.heap[kb1]? = some (.cells ([5, 6].map uv).toArray 28 (0, 0)) := by rw [hwa1, hkb1, ← ez1]; exact heap_alloc_new _ _
  have P1 : Calls Try.prog 12 #[.pointer (some ⟨d, 0, none⟩), .int .i64 0, .slice (some ⟨kb1, 0, none⟩) 2 2] wa1 fun e w' => e = .returned (.tuple #[.agg mk1.cells.toArray, .int .i64 0]) ∧ DiskAt Try.prog w' d g m 1 mX1 ∧ Frm (own3 d g m) wa1 w' := by
    have h := put_ok (HD2.out.below ba1 (Nat.le_refl _)) (by unfold maxLen; omega) (fun i l _ h => by cases h) 0 (by simp [DS.new]) rfl (ao := some ⟨kb1, 0, none⟩) (c := 2) (ws := [5, 6]) ⟨_, _, rfl, (fun h => by cases h), fun ad e j u hu => by cases e; exact cells_row rb1 j u hu⟩ (by decide) (by decide) (by rw [m0_great]; decide)
    rw [m0_next, m0_code] at h
    exact h
  have PP1 := Lib.hid P1
  have RA1 := Lib.hid ra1
  have BA1 := Lib.hid (HB2.out.trans (ba1.mono HB2.out.size))
  have WA1 := Lib.hid hwa1
  have KA1 := Lib.hid hka1
  have LA1 := Lib.hid (show w.heap.size ≤ ka1 by rw [hka1]; exact HB2.out.size)
  rw [← hwa1, ← hkb1, ← hka1]
  clear hka1 hkb1 ez1 hwa1 ba1 ra1 rb1 P1
  refine PP1.out.mono ?_
  rintro e wb1 ⟨rfl, hD, hF⟩
  have DB1 := Lib.hid hD
  have BB1 := Lib.hid (BA1.out.trans (hF.below (B := w.heap.size) (fun i _ e => HO.out i e) BA1.out.size))
  have FB1 := Lib.hid hF
  clear hD hF
  have HS1 := Lib.hid (show (Try.prog.info? 34).map (·.size) = some mk1.cells.toArray.size by kernel_rfl)
  go_wp2_with (with_reducible show wpList _ _ _ _ _ _; refine wpList_store_new rfl 34 (.tmp 5) (.tmp 28) rfl 34 _ mk1.cells.toArray rfl rfl HS1.out rfl mk1.cells_one ?_)
  obtain ⟨ka2, hka2⟩ : ∃ k, k = wb1.heap.size := ⟨_, rfl⟩
  obtain ⟨kb2, hkb2⟩ : ∃ k, k = wb1.heap.size + 1 := ⟨_, rfl⟩
  have ez2 : (wb1.alloc (.cells mk1.cells.toArray 34)).heap.size = wb1.heap.size + 1 := Array.size_push _
  obtain ⟨wa2, hwa2⟩ : ∃ wa, wa = (wb1.alloc (.cells mk1.cells.toArray 34)).alloc (.cells #[.int .u64 7] 28) := ⟨_, rfl⟩
  have ba2 : Below wb1.heap.size wb1 wa2 := by rw [hwa2]; exact ((Below.refl _ _).alloc (Nat.le_refl _) _).alloc (by rw [ez2]; omega) _
  have ra2 : wa2.heap[ka2]? = some (.cells mk1.cells.toArray 34 (0, 0)) := by rw [hwa2, hka2, Below.heap_alloc _ _ _ (by rw [ez2]; omega)]; exact heap_alloc_new _ _
  have rb2 : wa2.heap[kb2]? = some (.cells ([7].map uv).toArray 28 (0, 0)) := by rw [hwa2, hkb2, ← ez2]; exact heap_alloc_new _ _
  have P2 : Calls Try.prog 12 #[.pointer (some ⟨d, 0, none⟩), .int .i64 0, .slice (some ⟨kb2, 0, none⟩) 1 1] wa2 fun e w' => e = .returned (.tuple #[.agg mk2.cells.toArray, .int .i64 0]) ∧ DiskAt Try.prog w' d g m 2 mX2 ∧ Frm (own3 d g m) wa2 w' := by
    have h := put_ok (DB1.out.below ba2 (Nat.le_refl _)) (by unfold maxLen; omega) (fun i l _ h => by rw [m1_S] at h; cases h) 0 (by rw [m1_len]; decide) m1_up (ao := some ⟨kb2, 0, none⟩) (c := 1) (ws := [7]) ⟨_, _, rfl, (fun h => by cases h), fun ad e j u hu => by cases e; exact cells_row rb2 j u hu⟩ (by decide) (by decide) (by rw [m1_great]; decide)
    rw [m1_next, m1_code] at h
    exact h
  have PP2 := Lib.hid P2
  have RA2 := Lib.hid ra2
  have BA2 := Lib.hid (BB1.out.trans (ba2.mono BB1.out.size))
  have WA2 := Lib.hid hwa2
  have KA2 := Lib.hid hka2
  have LA2 := Lib.hid (show w.heap.size ≤ ka2 by rw [hka2]; exact BB1.out.size)
  rw [← hwa2, ← hkb2, ← hka2]
  clear hka2 hkb2 ez2 hwa2 ba2 ra2 rb2 P2
  refine PP2.out.mono ?_
  rintro e wb2 ⟨rfl, hD, hF⟩
  have DB2 := Lib.hid hD
  have BB2 := Lib.hid (BA2.out.trans (hF.below (B := w.heap.size) (fun i _ e => HO.out i e) BA2.out.size))
  have FB2 := Lib.hid hF
  clear hD hF
  have HS2 := Lib.hid (show (Try.prog.info? 34).map (·.size) = some mk2.cells.toArray.size by kernel_rfl)
  go_wp2_with (with_reducible show wpList _ _ _ _ _ _; refine wpList_store_new rfl 34 (.tmp 7) (.tmp 34) rfl 34 _ mk2.cells.toArray rfl rfl HS2.out rfl mk2.cells_one ?_)
  obtain ⟨kc, hkc⟩ : ∃ k, k = wb2.heap.size := ⟨_, rfl⟩
  obtain ⟨wc, hwc⟩ : ∃ wc, wc = wb2.alloc (.cells mk2.cells.toArray 34) := ⟨_, rfl⟩
  have bc : Below wb2.heap.size wb2 wc := by rw [hwc]; exact (Below.refl _ _).alloc (Nat.le_refl _) _
  have rc : wc.heap[kc]? = some (.cells mk2.cells.toArray 34 (0, 0)) := by rw [hwc, hkc]; exact heap_alloc_new _ _
  have g3 := get_ok (DB2.out.below bc (Nat.le_refl _)) 0 (by rw [m2_len]; decide) m2_up
  rw [m2_last, if_pos (by decide), if_pos (by decide)] at g3
  have G3 := Lib.hid g3
  have BC := Lib.hid (BB2.out.trans (bc.mono BB2.out.size))
  have RC := Lib.hid rc
  -- the second mark's block of the first put stands still
  have hka2 : ¬ own3 d g m ka2 := fun e => by
    have h1 := DB1.out.dlt; have h2 := DB1.out.glt; have h3 := DB1.out.mlt; have := KA2.out
    rcases e with e | e | e <;> omega
  have R5 := Lib.hid ((bc.block _ (Nat.lt_of_lt_of_le (lt_of_row RA2.out) FB2.out.size)).trans ((FB2.out.block _ (lt_of_row RA2.out) hka2).trans RA2.out))
  rw [← hwc, ← hkc]
  clear hkc hwc bc rc g3 hka2
  refine G3.out.mono ?_
  rintro e wd ⟨rfl, hbd⟩
  have RD5 := Lib.hid ((hbd.block _ (lt_of_row R5.out)).trans R5.out)
  have RDC := Lib.hid ((hbd.block _ (lt_of_row RC.out)).trans RC.out)
  have BD := Lib.hid (BC.out.trans (hbd.mono BC.out.size))
  obtain ⟨kd, hkd⟩ : ∃ k, k = wd.heap.size := ⟨_, rfl⟩
  obtain ⟨we, hwe⟩ : ∃ we, we = wd.alloc (.cells mk2.cells.toArray 34) := ⟨_, rfl⟩
  have be : Below wd.heap.size wd we := by rw [hwe]; exact (Below.refl _ _).alloc (Nat.le_refl _) _
  have re : we.heap[kd]? = some (.cells mk2.cells.toArray 34 (0, 0)) := by rw [hwe, hkd]; exact heap_alloc_new _ _
  have r5 := (be.block _ (lt_of_row RD5.out)).trans RD5.out
  have rc := (be.block _ (lt_of_row RDC.out)).trans RDC.out
  have BE := Lib.hid (BD.out.trans (be.mono BD.out.size))
  have WE := Lib.hid hwe
  have KD := Lib.hid hkd
  have a0 : we.cell? ⟨ka2, 0, none⟩ = some (.int .u64 1) := (cells_row r5) 0 _ rfl
  have a2 : we.cell? ⟨ka2, 2, none⟩ = some (.int .u64 6) := by have := (cells_row r5) 2 _ rfl; rwa [Addr.add_mid, Nat.zero_add] at this
  have c0 : we.cell? ⟨kc, 0, none⟩ = some (.int .u64 2) := (cells_row rc) 0 _ rfl
  have c1 : we.cell? ⟨kc, 1, none⟩ = some (.int .u64 7) := by have := (cells_row rc) 1 _ rfl; rwa [Addr.add_mid, Nat.zero_add] at this
  have c2 : we.cell? ⟨kc, 2, none⟩ = some (.int .u64 0) := by have := (cells_row rc) 2 _ rfl; rwa [Addr.add_mid, Nat.zero_add] at this
  have c3 : we.cell? ⟨kc, 3, none⟩ = some (.int .u64 0) := by have := (cells_row rc) 3 _ rfl; rwa [Addr.add_mid, Nat.zero_add] at this
  have c4 : we.cell? ⟨kc, 4, none⟩ = some (.int .u64 0) := by have := (cells_row rc) 4 _ rfl; rwa [Addr.add_mid, Nat.zero_add] at this
  have c5 : we.cell? ⟨kc, 5, none⟩ = some (.int .u64 0) := by have := (cells_row rc) 5 _ rfl; rwa [Addr.add_mid, Nat.zero_add] at this
  have c6 : we.cell? ⟨kc, 6, none⟩ = some (.int .u64 0) := by have := (cells_row rc) 6 _ rfl; rwa [Addr.add_mid, Nat.zero_add] at this
  have e0 : we.cell? ⟨kd, 0, none⟩ = some (.int .u64 2) := (cells_row re) 0 _ rfl
  have e1 : we.cell? ⟨kd, 1, none⟩ = some (.int .u64 7) := by have := (cells_row re) 1 _ rfl; rwa [Addr.add_mid, Nat.zero_add] at this
  have e2 : we.cell? ⟨kd, 2, none⟩ = some (.int .u64 0) := by have := (cells_row re) 2 _ rfl; rwa [Addr.add_mid, Nat.zero_add] at this
  have e3 : we.cell? ⟨kd, 3, none⟩ = some (.int .u64 0) := by have := (cells_row re) 3 _ rfl; rwa [Addr.add_mid, Nat.zero_add] at this
  have e4 : we.cell? ⟨kd, 4, none⟩ = some (.int .u64 0) := by have := (cells_row re) 4 _ rfl; rwa [Addr.add_mid, Nat.zero_add] at this
  have e5 : we.cell? ⟨kd, 5, none⟩ = some (.int .u64 0) := by have := (cells_row re) 5 _ rfl; rwa [Addr.add_mid, Nat.zero_add] at this
  have e6 : we.cell? ⟨kd, 6, none⟩ = some (.int .u64 0) := by have := (cells_row re) 6 _ rfl; rwa [Addr.add_mid, Nat.zero_add] at this
  clear be re r5 rc hwe hkd hbd
  have EQ : (Op.equalIn 9999 32 (.agg #[.int .u64 7, .int .u64 0, .int .u64 0, .int .u64 0, .int .u64 0, .int .u64 0]) (.agg #[.int .u64 7, .int .u64 0, .int .u64 0, .int .u64 0, .int .u64 0, .int .u64 0])).run Try.prog we = .ok true we := by kernel_rfl
  go_wp2_with (with_reducible show wpList _ _ _ _ _ _; refine wpList_store_new rfl 34 (.tmp 9) (.tmp 39) rfl 34 _ mk2.cells.toArray rfl rfl HS2.out rfl mk2.cells_one ?_; rw [← WE.out, ← KD.out])
  go_ret
  exact ⟨rfl, BE.out⟩
end Go.Proofs.Ytgbmkolpdnenlaa.Dk
