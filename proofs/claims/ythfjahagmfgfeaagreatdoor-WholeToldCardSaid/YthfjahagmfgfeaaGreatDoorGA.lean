/- The parser's value. -/
import Derived.Test.YthfjahagmfgfeaaGreatDoorG9
import Derived.Test.YthfjahagmfgfeaaGreatDoorG6
import Derived.Test.YthfjahagmfgfeaaGreatDoorG2
namespace Go.Proofs.YthfjahagmfgfeaaGreatDoor.Wi
open Go Go.RowKit
set_option linter.unusedVariables false
set_option linter.unusedSimpArgs false
theorem zV_nzV : (VT.mk 0 0 [] none 0 []).nz = VT.mk 0 0 [] none 0 [] := by rw [VT.nz]; rfl
theorem pa_end {w wz : World} {b g4 C k' : Nat} {l : List UInt8} {e' : Int} {y : VT} {X : VT × Nat × Int} (hX : X = (y.nz, k', e')) (hS : PS wz b l k' e') (hF : Fr w wz b none) (hy : y.At wz.heap.size wz) (hin : y.In (C ≤ ·)) (hC : g4 < C) (hwC : w.heap.size ≤ C)
    (hg4 : w.heap.size ≤ g4) (hb : b < w.heap.size) : PaPost w b l X (.returned (.agg y.cells.toArray)) (wz.setRow g4 y.cells.toArray) := by
  subst hX
  have st : ∀ q, q ≠ g4 → (wz.setRow g4 y.cells.toArray).heap[q]? = wz.heap[q]? := fun q hq => setRow_other wz g4 q _ hq
  refine ⟨y, rfl, rfl, ?_, hin.imp fun q hq => Nat.le_trans hwC hq, hS.keep (st b (by omega)), ⟨hF.os, hF.tape, hF.output, by simpa using hF.size, fun q hq h1 h2 => (st q (by omega)).trans (hF.block q hq h1 h2)⟩⟩
  exact (hy.keepT hin (fun q _ h2 => st q (by omega))).mono (by simp)
theorem txL_len (l : List UInt8) : ∀ (f k : Nat) (e : Int) (acc : List UInt8), (txL l f k e acc).1.length ≤ acc.length + f := by
  intro f
  induction f with
  | zero => intro k e acc; exact Nat.le_refl _
  | succ f ih =>
    intro k e acc
    rw [txL]
    by_cases h1 : e ≠ 0
    · rw [if_pos h1]; exact Nat.le_add_right _ _
    rw [if_neg h1]
    by_cases h2 : tkV [34] l k = true
    · rw [if_pos h2]; exact Nat.le_add_right _ _
    · rw [if_neg h2]
      have h := ih (chV l k e).2.1 (chV l k e).2.2 (acc ++ [(chV l k e).1])
      rw [List.length_append, List.length_cons, List.length_nil] at h
      omega
theorem tqV_len (l : List UInt8) (k : Nat) (e : Int) : (tqV l k e).1.length ≤ 2 * l.length + 3 := by
  have h := txL_len l (2 * l.length + 3) k e []
  rw [List.length_nil, Nat.zero_add] at h
  exact h
theorem nuV_fits (l : List UInt8) (k : Nat) (e : Int) : -9223372036854775808 ≤ (nuV l k e).1 ∧ (nuV l k e).1 ≤ 9223372036854775807 := by
  unfold nuV
  dsimp only
  unfold nuQ
  split
  · rename_i v h
    exact pib_fits h
  · show -9223372036854775808 ≤ (0 : Int) ∧ (0 : Int) ≤ 9223372036854775807
    exact ⟨by decide, by decide⟩
  · show _ ≤ Lib.intSat 64 _ ∧ Lib.intSat 64 _ ≤ _
    unfold Lib.intSat
    split
    · exact ⟨by decide, by decide⟩
    · exact ⟨by decide, by decide⟩
set_option maxHeartbeats 16000000 in
set_option maxRecDepth 100000 in
theorem pvalue_any : ∀ f, PaAny f := by
  intro f
  induction f with
  | zero => intro d k e w b B l hd hd8; omega
  | succ f ih =>
    intro d k e w b B l hd hd8 hk hl hg hBw hBb hP
    have hb := hP.lt
    obtain ⟨w1, hw1⟩ : ∃ w1, w1 = w.alloc (.cells z4.toArray 24) := ⟨_, rfl⟩
    obtain ⟨g4, hg4⟩ : ∃ g, g = w.heap.size := ⟨_, rfl⟩
    have hb1 : Below w.heap.size w w1 := by rw [hw1]; exact (Below.refl _ _).alloc (Nat.le_refl _) _
    have n1 : w1.heap[g4]? = some (.cells z4.toArray 24 (0, 0)) := by rw [hw1, hg4]; exact heap_alloc_new _ _
    have hP1 := hP.keep (hb1.block b hb)
    have hF1 : Fr w w1 b none := below_frZ hb1 b
    have TN := Lib.hid (ptake_any hP1 hk (by omega) [110, 105, 108])
    obtain ⟨X, hX⟩ : ∃ X, X = paV l (f + 1) d k e := ⟨_, rfl⟩
    rw [← hX]
    rw [paV] at hX
    have HX := Lib.hid hX
    have HG := Lib.hid hg
    have HBw := Lib.hid hBw
    have HBb := Lib.hid hBb
    have IH := Lib.hid ih
    have N1 := Lib.hid n1
    have HF1 := Lib.hid hF1
    have HW1 := Lib.hid (show w1 = w.alloc (.cells #[.int .i64 0, .int .i64 0, .string ⟨#[]⟩, .slice none 0 0] 24) from hw1)
    have HG4 := Lib.hid hg4
    have HLT := Lib.hid (show b < w.heap.size ∧ w.heap.size ≤ g4 ∧ g4 < w1.heap.size ∧ w.heap.size ≤ w1.heap.size from ⟨hb, by omega, lt_of_rowK n1, hb1.size⟩)
    clear hw1 hg4 hb1 n1 hP1 hF1 hX hg hBw hBb hP ih
    go_enter Tryz.func62, Tryz.ntmps62
    go_upto_region 1 with fail
    rw [← HW1.out, ← HG4.out]
    by_cases h1 : tkV [110, 105, 108] l k = true
    · have hx := HX.out.trans (if_pos h1)
      rw [h1, show tkN [110, 105, 108] l k = k + 3 by unfold tkN; rw [if_pos h1]; rfl] at TN
      clear h1 HX
      go_wp2_with fail
      refine TN.out.mono ?_
      rintro en w2 ⟨rfl, hp2, hf2⟩
      have hlt := HLT.out
      have n2 := (hf2.block g4 hlt.2.2.1 (by omega) (fun e => by cases e)).trans N1.out
      have RL := Lib.hid (pa_end (y := VT.mk 0 0 [] none 0 []) (C := w1.heap.size) (X := X) (by rw [zV_nzV]; exact hx) hp2 (HF1.out.trans (Or.inl rfl) hf2) (mk0_at (by decide) (by decide) (by decide)) mk0_in hlt.2.2.1 hlt.2.2.2 hlt.2.1 hlt.1)
      have N2 := Lib.hid n2
      obtain ⟨ZZ, hZZ⟩ : ∃ ZZ, ZZ = VT.mk 0 0 [] none 0 [] := ⟨_, rfl⟩
      rw [← hZZ] at RL
      have hzc : ZZ.cells.toArray = #[.int .i64 0, .int .i64 0, .string ⟨#[]⟩, .slice none 0 0] := by rw [hZZ]; rfl
      rw [hzc] at RL
      have ZS := Lib.hid (show z4.toArray.size = (#[.int .i64 0, .int .i64 0, .string ⟨#[]⟩, .slice none 0 0] : Array Value).size from rfl)
      have ON := Lib.hid (show (#[.int .i64 0, .int .i64 0, .string ⟨#[]⟩, .slice none 0 0] : Array Value).all (·.oneCell') = true by rw [← hzc]; exact ZZ.cells_one)
      have SB := Lib.hid (show (Tryz.prog.info? 24).map (·.size) = some (#[.int .i64 0, .int .i64 0, .string ⟨#[]⟩, .slice none 0 0] : Array Value).size by kernel_rfl)
      clear hx hp2 hf2 hlt n2 hZZ hzc
      go_wp2_with (with_reducible show wpList _ _ _ _ _ _; refine wpList_store_whole rfl 24 (.tmp 4) (.tmp 8) rfl g4 24 z4.toArray #[.int .i64 0, .int .i64 0, .string ⟨#[]⟩, .slice none 0 0] rfl rfl N2.out SB.out ZS.out ON.out ?_)
      refine bodyPost_ret (results_cell_row rfl _ _ g4 24 #[.int .i64 0, .int .i64 0, .string ⟨#[]⟩, .slice none 0 0] (0, 0) _ rfl (setRow_heap _ g4 _ _ _ _ N2.out) Tryz.underlying24 rfl SB.out) rfl ?_
      exact RL.out
    have hx := HX.out.trans (if_neg h1)
    rw [show tkV [110, 105, 108] l k = false by simpa using h1, show tkN [110, 105, 108] l k = k by unfold tkN; rw [if_neg h1]] at TN
    have HX1 := Lib.hid hx
    clear h1 HX hx
    go_wp2_with fail
    refine TN.out.mono ?_
    rintro en w2 ⟨rfl, hp2, hf2⟩
    have T2 := Lib.hid (ptake_any hp2 hk (by omega) [91])
    have HF2 := Lib.hid (HF1.out.trans (Or.inl rfl) hf2)
    have N2 := Lib.hid ((hf2.block g4 HLT.out.2.2.1 (by have := HLT.out; omega) (fun e => by cases e)).trans N1.out)
    have HZ2 := Lib.hid (show w1.heap.size ≤ w2.heap.size from hf2.size)
    clear hp2 hf2 TN
    by_cases h2 : tkV [91] l k = true
    · have hx := HX1.out.trans (if_pos h2)
      have hkl := tk_len hk h2
      rw [h2, show tkN [91] l k = k + 1 by unfold tkN; rw [if_pos h2]; rfl] at T2
      have PL := Lib.hid (fun (W : World) (hg : GB B W) (hw : B ≤ W.heap.size) (hp : PS W b l (k + 1) e) => plist_any f IH.out d (k + 1) e W b B l (by omega) hkl hl hg hw HBb.out hp)
      obtain ⟨L, hL⟩ : ∃ L, L = paL l (paV l f (d + 1)) d (k + 1) e := ⟨_, rfl⟩
      rw [← hL] at PL hx
      have HXX := Lib.hid hx
      clear hx hL h2 hkl HX1
      go_wp2_with fail
      refine T2.out.mono ?_
      rintro en w3 ⟨rfl, hp3, hf3⟩
      have hf3w := HF2.out.trans (Or.inl rfl) hf3
      have PLW := Lib.hid (PL.out w3 (HG.out.on (hf3w.below HBw.out HBb.out (fun g hg => by cases hg))) (Nat.le_trans HBw.out hf3w.size) hp3)
      have HF3 := Lib.hid hf3w
      have N3 := Lib.hid ((hf3.block g4 (by have := HLT.out; have := HZ2.out; omega) (by have := HLT.out; omega) (fun e => by cases e)).trans N2.out)
      have HZ3 := Lib.hid (Nat.le_trans HZ2.out hf3.size)
      clear hp3 hf3 hf3w PL T2
      go_wp2_with fail
      refine PLW.out.mono ?_
      rintro en w4 ⟨la, lc, Y, rfl, hYn, hYe, hYo, hYl, hp4, hf4⟩
      have hlt := HLT.out
      have hz3 := HZ3.out
      have n4 := (hf4.block g4 (by omega) (by omega) (fun e => by cases e)).trans N3.out
      have hcl : Cln w3.heap.size w4 (VT.mk 3 0 [] none 0 Y) la lc Y := ⟨rfl, hYe, hYo, by omega⟩
      have hyin : (VT.mk 3 0 [] la lc Y).In (w3.heap.size ≤ ·) := cln_in hcl
      have hyat : (VT.mk 3 0 [] la lc Y).At w4.heap.size w4 := cln_atB hcl
      have hXX : X = ((VT.mk 3 0 [] la lc Y).nz, L.2.1, L.2.2) := by
        rw [HXX.out]
        congr 1
        rw [VT.nz, nzL_map, hYn]
        rfl
      have RL := Lib.hid (pa_end hXX hp4 (HF3.out.trans (Or.inl rfl) hf4) hyat hyin (by omega) (by omega) hlt.2.1 hlt.1)
      have N4 := Lib.hid n4
      obtain ⟨ZZ, hZZ⟩ : ∃ ZZ, ZZ = VT.mk 3 0 [] la lc Y := ⟨_, rfl⟩
      rw [← hZZ] at RL
      have hzc : ZZ.cells.toArray = #[.int .i64 3, .int .i64 0, .string ⟨#[]⟩, .slice la Y.length lc] := by rw [hZZ]; rfl
      rw [hzc] at RL
      have ZS := Lib.hid (show z4.toArray.size = (#[.int .i64 3, .int .i64 0, .string ⟨#[]⟩, .slice la Y.length lc] : Array Value).size from rfl)
      have ON := Lib.hid (show (#[.int .i64 3, .int .i64 0, .string ⟨#[]⟩, .slice la Y.length lc] : Array Value).all (·.oneCell') = true by rw [← hzc]; exact ZZ.cells_one)
      have SB := Lib.hid (show (Tryz.prog.info? 24).map (·.size) = some (#[.int .i64 3, .int .i64 0, .string ⟨#[]⟩, .slice la Y.length lc] : Array Value).size by kernel_rfl)
      clear hcl hyin hyat hXX hZZ hzc n4 hlt hz3 hp4 hf4 hYn hYe hYo
      go_wp2_with (with_reducible show wpList _ _ _ _ _ _; refine wpList_store_whole rfl 24 (.tmp 4) (.tmp 15) rfl g4 24 z4.toArray #[.int .i64 3, .int .i64 0, .string ⟨#[]⟩, .slice la Y.length lc] rfl rfl N4.out SB.out ZS.out ON.out ?_)
      refine bodyPost_ret (results_cell_row rfl _ _ g4 24 #[.int .i64 3, .int .i64 0, .string ⟨#[]⟩, .slice la Y.length lc] (0, 0) _ rfl (setRow_heap _ g4 _ _ _ _ N4.out) Tryz.underlying24 rfl SB.out) rfl ?_
      exact RL.out
    have hx := HX1.out.trans (if_neg h2)
    rw [show tkV [91] l k = false by simpa using h2, show tkN [91] l k = k by unfold tkN; rw [if_neg h2]] at T2
    have HX2 := Lib.hid hx
    clear h2 HX1 hx
    go_wp2_with fail
    refine T2.out.mono ?_
    rintro en w3 ⟨rfl, hp3, hf3⟩
    have T3 := Lib.hid (ptake_any hp3 hk (by omega) [34])
    have HF3 := Lib.hid (HF2.out.trans (Or.inl rfl) hf3)
    have N3 := Lib.hid ((hf3.block g4 (by have := HLT.out; have := HZ2.out; omega) (by have := HLT.out; omega) (fun e => by cases e)).trans N2.out)
    have HZ3 := Lib.hid (Nat.le_trans HZ2.out hf3.size)
    clear hp3 hf3 T2
    by_cases h3 : tkV [34] l k = true
    · have hx := HX2.out.trans (if_pos h3)
      have hkl := tk_len hk h3
      rw [h3, show tkN [34] l k = k + 1 by unfold tkN; rw [if_pos h3]; rfl] at T3
      have hul := tqV_len l (k + 1) e
      have PT := Lib.hid (fun (W : World) (hp : PS W b l (k + 1) e) => ptext_any hp (Nat.le_add_left _ _) hkl hl)
      obtain ⟨U, hU⟩ : ∃ U, U = tqV l (k + 1) e := ⟨_, rfl⟩
      rw [← hU] at PT hx hul
      have HXX := Lib.hid hx
      have HUL := Lib.hid hul
      clear hx hU h3 hkl hul HX2
      go_wp2_with fail
      refine T3.out.mono ?_
      rintro en w4 ⟨rfl, hp4, hf4⟩
      have PTW := Lib.hid (PT.out w4 hp4)
      have HF4 := Lib.hid (HF3.out.trans (Or.inl rfl) hf4)
      have N4 := Lib.hid ((hf4.block g4 (by have := HLT.out; have := HZ3.out; omega) (by have := HLT.out; omega) (fun e => by cases e)).trans N3.out)
      have HZ4 := Lib.hid (Nat.le_trans HZ3.out hf4.size)
      clear hp4 hf4 PT T3
      go_wp2_with fail
      refine PTW.out.mono ?_
      rintro en w5 ⟨rfl, hp5, hf5⟩
      have VT5 := Lib.hid (vtext_any U.1 w5)
      obtain ⟨y, hy⟩ : ∃ y, y = txV U.1 := ⟨_, rfl⟩
      rw [← hy] at VT5
      have HY := Lib.hid hy
      have HP5 := Lib.hid hp5
      have HF5 := Lib.hid (HF4.out.trans (Or.inl rfl) hf5)
      have N5 := Lib.hid ((hf5.block g4 (by have := HLT.out; have := HZ4.out; omega) (by have := HLT.out; omega) (fun e => by cases e)).trans N4.out)
      have HZ5 := Lib.hid (Nat.le_trans HZ4.out hf5.size)
      obtain ⟨SU, hSU⟩ : ∃ SU, SU = str U.1 := ⟨_, rfl⟩
      rw [← hSU] at VT5 ⊢
      clear hp5 hf5 hy hSU
      go_wp2_with fail
      refine VT5.out.mono ?_
      rintro en w6 ⟨rfl, hb6⟩
      have hlt := HLT.out
      have hz5 := HZ5.out
      have N6 := Lib.hid ((hb6.block g4 (by omega)).trans N5.out)
      have hyat : y.At w6.heap.size w6 := by rw [HY.out]; exact mk0_at (by decide) (by decide) (by have := HUL.out; omega)
      have hyin : y.In (w1.heap.size ≤ ·) := by rw [HY.out]; exact mk0_in
      have hXX : X = (y.nz, U.2.1, U.2.2) := by rw [HXX.out, HY.out, txV, VT.nz]; rfl
      have RL := Lib.hid (pa_end hXX (HP5.out.keep (hb6.block b HP5.out.lt)) (HF5.out.trans (Or.inl rfl) (below_frZ hb6 b)) hyat hyin hlt.2.2.1 hlt.2.2.2 hlt.2.1 hlt.1)
      clear hyat hyin hXX hb6 hlt hz5
      go_wp2_with (with_reducible show wpList _ _ _ _ _ _; refine wpList_store_whole rfl 24 (.tmp 4) (.tmp 21) rfl g4 24 z4.toArray y.cells.toArray rfl rfl N6.out (Tryz.valSize' y) (VT.fourZ y) y.cells_one ?_)
      refine bodyPost_ret (results_cell_row rfl _ _ g4 24 y.cells.toArray (0, 0) _ rfl (setRow_heap _ g4 _ _ _ _ N6.out) Tryz.underlying24 rfl (Tryz.valSize' y)) rfl ?_
      exact RL.out
    · have hx := HX2.out.trans (if_neg h3)
      rw [show tkV [34] l k = false by simpa using h3, show tkN [34] l k = k by unfold tkN; rw [if_neg h3]] at T3
      have hul := nuV_fits l k e
      have PN := Lib.hid (fun (W : World) (hg : GB B W) (hw : B ≤ W.heap.size) (hp : PS W b l k e) => pnumber_any hp hk hl hg hw HBb.out)
      obtain ⟨U, hU⟩ : ∃ U, U = nuV l k e := ⟨_, rfl⟩
      rw [← hU] at PN hx hul
      obtain ⟨un, uk, ue⟩ := U
      have HXX := Lib.hid hx
      have HUL := Lib.hid hul
      clear hx hU h3 hul HX2
      go_wp2_with fail
      refine T3.out.mono ?_
      rintro en w4 ⟨rfl, hp4, hf4⟩
      have hf4w := HF3.out.trans (Or.inl rfl) hf4
      have PNW := Lib.hid (PN.out w4 (HG.out.on (hf4w.below HBw.out HBb.out (fun g hg => by cases hg))) (Nat.le_trans HBw.out hf4w.size) hp4)
      have HF4 := Lib.hid hf4w
      have N4 := Lib.hid ((hf4.block g4 (by have := HLT.out; have := HZ3.out; omega) (by have := HLT.out; omega) (fun e => by cases e)).trans N3.out)
      have HZ4 := Lib.hid (Nat.le_trans HZ3.out hf4.size)
      clear hp4 hf4 hf4w PN T3
      go_wp2_with fail
      refine PNW.out.mono ?_
      rintro en w5 ⟨rfl, hp5, hf5⟩
      dsimp only at hp5 ⊢
      have VO5 := Lib.hid (vof_any un w5)
      obtain ⟨y, hy⟩ : ∃ y, y = ofV un := ⟨_, rfl⟩
      rw [← hy] at VO5
      have HY := Lib.hid hy
      have HP5 := Lib.hid hp5
      have HF5 := Lib.hid (HF4.out.trans (Or.inl rfl) hf5)
      have N5 := Lib.hid ((hf5.block g4 (by have := HLT.out; have := HZ4.out; omega) (by have := HLT.out; omega) (fun e => by cases e)).trans N4.out)
      have HZ5 := Lib.hid (Nat.le_trans HZ4.out hf5.size)
      clear hp5 hf5 hy
      go_wp2_with fail
      refine VO5.out.mono ?_
      rintro en w6 ⟨rfl, hb6⟩
      have hlt := HLT.out
      have hz5 := HZ5.out
      have N6 := Lib.hid ((hb6.block g4 (by omega)).trans N5.out)
      have hyat : y.At w6.heap.size w6 := by rw [HY.out]; exact mk0_at (by decide) HUL.out (by decide)
      have hyin : y.In (w1.heap.size ≤ ·) := by rw [HY.out]; exact mk0_in
      have hXX : X = (y.nz, uk, ue) := by rw [HXX.out, HY.out, ofV, VT.nz]; rfl
      have RL := Lib.hid (pa_end hXX (HP5.out.keep (hb6.block b HP5.out.lt)) (HF5.out.trans (Or.inl rfl) (below_frZ hb6 b)) hyat hyin hlt.2.2.1 hlt.2.2.2 hlt.2.1 hlt.1)
      clear hyat hyin hXX hb6 hlt hz5
      go_wp2_with (with_reducible show wpList _ _ _ _ _ _; refine wpList_store_whole rfl 24 (.tmp 4) (.tmp 24) rfl g4 24 z4.toArray y.cells.toArray rfl rfl N6.out (Tryz.valSize' y) (VT.fourZ y) y.cells_one ?_)
      refine bodyPost_ret (results_cell_row rfl _ _ g4 24 y.cells.toArray (0, 0) _ rfl (setRow_heap _ g4 _ _ _ _ N6.out) Tryz.underlying24 rfl (Tryz.valSize' y)) rfl ?_
      exact RL.out
end Go.Proofs.YthfjahagmfgfeaaGreatDoor.Wi
/- Parse. -/
namespace Go.Proofs.YthfjahagmfgfeaaGreatDoor.Wi
open Go Go.RowKit
set_option linter.unusedVariables false
set_option linter.unusedSimpArgs false
/-- What Parse answers: the value, the error. -/
def prV (l : List UInt8) : VT × Int :=
  let X := paV l 9 0 0 0
  let e1 := if X.2.1 < l.length then fe X.2.2 8 else X.2.2
  let e2 := if e1 = 0 then X.1.vE else e1
  (if e2 = 0 then X.1 else zV, e2)
theorem slot_store {P : Program} {o : Oper} {a : Act} {w : World} {K : Act → World → Prop} {Q : Exit → Act → World → Prop} (ty : TypeId) (x y : Operand) (ho : o.op = .store ty x y)
    (g : Nat) (t : TypeId) (old cells : Array Value) (hx : a.eval x = .pointer (some ⟨g, 0, none⟩)) (hy : a.eval y = .agg cells) (hg : w.heap[g]? = some (.cells old t (0, 0)))
    (hi : (P.info? ty).map (·.size) = some cells.size) (hs : old.size = cells.size) (h1 : cells.all (·.oneCell') = true)
    (h : K (a.put o.dst undef) (w.setRow g cells)) : o.wp P a w K Q := by
  unfold Oper.wp execOp
  simp only [ho, hx, hy, Instr.storeAt, Instr.sureAddr, Sem.run_bind, Sem.run_pure, Result.andThen_ok, run_storeVar_row w g t ty old cells hg hi hs h1]
  exact h
theorem runPe {P : Program} {o : Oper} {a : Act} {w : World} {r : Result Next} (ev : Operand → Value) (h1 : (execOp a.eval o).run P w = (execOp ev o).run P w) (h2 : (execOp ev o).run P w = r) : (execOp a.eval o).run P w = r := h1.trans h2
def PeF (b : Nat) (e2 : Int) (j : Nat) (v : Value) : Prop := match j with
  | 0 => v = .agg #[.int .i64 0, .int .i64 0, .string ⟨#[]⟩, .slice none 0 0]
  | 1 => v = .pointer (some ⟨b, 2, none⟩)
  | 2 => v = .int .i64 e2
  | 4 => v = .int .i64 e2
  | _ => True
set_option maxHeartbeats 16000000 in
set_option maxRecDepth 100000 in
theorem vparse_any {w : World} {l : List UInt8} (hl : l.length ≤ 1000000000) (hg : GB w.heap.size w) :
    Calls Tryz.prog 29 #[.string (str l)] w (DcdPost w (prV l)) := by
  have hls := str_sizeX l
  obtain ⟨S, hS⟩ : ∃ S, S = str l := ⟨_, rfl⟩
  rw [← hS] at hls ⊢
  obtain ⟨w1, hw1⟩ : ∃ w1, w1 = w.alloc (.cells z4.toArray 24) := ⟨_, rfl⟩
  obtain ⟨g2, hg2⟩ : ∃ g, g = w.heap.size := ⟨_, rfl⟩
  have hb1 : Below w.heap.size w w1 := by rw [hw1]; exact (Below.refl _ _).alloc (Nat.le_refl _) _
  have n1 : w1.heap[g2]? = some (.cells z4.toArray 24 (0, 0)) := by rw [hw1, hg2]; exact heap_alloc_new _ _
  obtain ⟨w2, hw2⟩ : ∃ w2, w2 = w1.alloc (.cells #[.string S, .int .i64 0, .int .i64 0] 87) := ⟨_, rfl⟩
  obtain ⟨b, hbq⟩ : ∃ g, g = w1.heap.size := ⟨_, rfl⟩
  have hb2 : Below w1.heap.size w1 w2 := by rw [hw2]; exact (Below.refl _ _).alloc (Nat.le_refl _) _
  have hP2 : PS w2 b l 0 0 := by rw [hw2, hbq, hS]; exact heap_alloc_new _ _
  have n2 := (hb2.block g2 (lt_of_rowK n1)).trans n1
  have hb12 : Below w.heap.size w w2 := hb1.trans (hb2.mono hb1.size)
  have hbw : w.heap.size ≤ b := by rw [hbq]; exact hb1.size
  have hg2b : g2 < b := by rw [hbq]; exact lt_of_rowK n1
  have PV := pvalue_any 9 0 0 0 w2 b w.heap.size l rfl (by decide) (Nat.zero_le _) hl (hg.on hb12) hb12.size hbw hP2
  rw [show ((0 : Nat) : Int) = 0 from rfl] at PV
  obtain ⟨X, hX⟩ : ∃ X, X = prV l := ⟨_, rfl⟩
  rw [← hX]
  unfold prV at hX
  dsimp only at hX
  obtain ⟨V, hV⟩ : ∃ V, V = paV l 9 0 0 0 := ⟨_, rfl⟩
  rw [← hV] at PV hX
  obtain ⟨v1, vk, ve⟩ := V
  dsimp only at hX
  obtain ⟨e1, he1⟩ : ∃ e1, e1 = if vk < l.length then fe ve 8 else ve := ⟨_, rfl⟩
  rw [← he1] at hX
  have HX := Lib.hid hX
  have HE1 := Lib.hid he1
  have HPV := Lib.hid PV
  have N2 := Lib.hid n2
  have HB12 := Lib.hid hb12
  have HL := Lib.hid (show w.heap.size ≤ g2 ∧ g2 < b ∧ b < w2.heap.size ∧ w.heap.size ≤ w2.heap.size ∧ w.heap.size ≤ b from ⟨by omega, hg2b, hP2.lt, hb12.size, hbw⟩)
  have HW1 := Lib.hid (show w1 = w.alloc (.cells #[.int .i64 0, .int .i64 0, .string ⟨#[]⟩, .slice none 0 0] 24) from hw1)
  have HG2 := Lib.hid hg2
  have HW2 := Lib.hid hw2
  have HBQ := Lib.hid hbq
  have SP := Lib.hid (show (Tryz.prog.info? 87).map (·.size) = some (#[.string S, .int .i64 0, .int .i64 0] : Array Value).size by kernel_rfl)
  clear hS hw1 hg2 hb1 n1 hw2 hbq hb2 hP2 n2 hb12 hbw hg2b PV hX hV he1 hg
  go_enter Tryz.func29, Tryz.ntmps29
  go_upto_region 1 with fail
  rw [← HW1.out, ← HG2.out]
  go_upto_region 2 with (with_reducible show wpList _ _ _ _ _ _; refine wpList_store_newW rfl 87 (.tmp 4) (.tmp 7) rfl 87 _ #[.string S, .int .i64 0, .int .i64 0] rfl rfl SP.out rfl rfl ?_)
  rw [← HW2.out, ← HBQ.out]
  go_wp2_with fail
  refine HPV.out.mono ?_
  rintro q w3 ⟨y, rfl, hy1, hy2, hy3, hP3, hF3⟩
  dsimp only at hy1 hP3
  have hh := HL.out
  have n3 := (hF3.block g2 (by omega) (by omega) (fun e => by cases e)).trans N2.out
  obtain ⟨w4, hw4⟩ : ∃ w4, w4 = w3.alloc (.cells y.cells.toArray 24) := ⟨_, rfl⟩
  obtain ⟨g5, hg5⟩ : ∃ g, g = w3.heap.size := ⟨_, rfl⟩
  have hb4 : Below w3.heap.size w3 w4 := by rw [hw4]; exact (Below.refl _ _).alloc (Nat.le_refl _) _
  have n5 : w4.heap[g5]? = some (.cells y.cells.toArray 24 (0, 0)) := by rw [hw4, hg5]; exact heap_alloc_new _ _
  have n4 := (hb4.block g2 (lt_of_rowK n3)).trans n3
  have hP4 := hP3.keep (hb4.block b hP3.lt)
  have hat4 : y.At w4.heap.size w4 := (hy2.below hb4).mono hb4.size
  have hb3 : Below w.heap.size w w3 := fr_new HB12.out HB12.out.size hF3 hh.2.2.2.2 (fun g hg => by cases hg)
  have HB4 := Lib.hid (hb3.trans (hb4.mono hb3.size))
  have HY := Lib.hid hy1
  have HIN := Lib.hid hy3
  have HAT4 := Lib.hid hat4
  have N4 := Lib.hid n4
  have N5 := Lib.hid n5
  have HP4 := Lib.hid hP4
  have HL5 := Lib.hid (show g2 < g5 ∧ b < g5 ∧ g5 < w4.heap.size from ⟨by have := hF3.size; omega, by have := hP3.lt; omega, lt_of_rowK n5⟩)
  have HW4 := Lib.hid hw4
  have HG5 := Lib.hid hg5
  have PF := Lib.hid (pfail_any hP4 8)
  have d1 := hP4.c1
  clear hy1 hy2 hy3 hP3 hF3 hh n3 hw4 hg5 hb4 n5 n4 hP4 hat4 hb3
  go_upto_region 3 with (with_reducible show wpList _ _ _ _ _ _; refine wpList_store_newW rfl 24 (.tmp 5) (.tmp 8) rfl 24 _ y.cells.toArray rfl rfl (Tryz.valSize' y) (by with_unfolding_all exact VT.four y) y.cells_one ?_; rw [← HW4.out, ← HG5.out])
  go_upto_if 13 with (fail)
  go_cut [] (fun wx => PS wx b l vk e1 ∧ Fr w4 wx b none)
  case first =>
    by_cases hlt : vk < l.length
    · have hlt' : (vk : Int) < (l.length : Int) := by omega
      have HE := Lib.hid (HE1.out.trans (if_pos hlt))
      go_wp2_with fail
      refine PF.out.mono ?_
      rintro en w5 ⟨rfl, hp5, hf5⟩
      have RL := Lib.hid (show PS w5 b l vk e1 ∧ Fr w4 w5 b none by rw [HE.out]; exact ⟨hp5, hf5⟩)
      clear hp5 hf5
      go_wp2_with fail
      go_meet
      all_goals exact RL.out
    · have hlt' : ¬ (vk : Int) < (l.length : Int) := by omega
      have HE := Lib.hid (HE1.out.trans (if_neg hlt))
      go_wp2_with fail
      go_meet
      all_goals exact ⟨by rw [HE.out]; exact HP4.out, Fr.refl _ _ _⟩
  case rest =>
    obtain ⟨wd, rfl⟩ : ∃ wd : World, wd = wc := ⟨_, rfl⟩
    obtain ⟨hp5, hf5⟩ := hcut
    have e5 := hp5.c2
    have g5c := hp5.fz 2
    have hl5 := HL5.out
    have n55 := (hf5.block g5 hl5.2.2 (by omega) (fun e => by cases e)).trans N5.out
    have hat5 : y.At wd.heap.size wd := (HAT4.out.keepT HIN.out (fun q h1 h2 => hf5.block q h1 (by have := HL.out; omega) (fun e => by cases e))).mono hf5.size
    have CK := Lib.hid (vcheck_any y wd.heap.size wd hat5 (Nat.le_refl _))
    have hve : y.vE = v1.vE := by
      rw [← HY.out]
      unfold VT.vE
      rw [nz_chk, nz_vb]
    rw [hve] at CK
    obtain ⟨cE, hcE⟩ : ∃ cE, cE = v1.vE := ⟨_, rfl⟩
    rw [← hcE] at CK
    obtain ⟨e2, he2⟩ : ∃ e2, e2 = if e1 = 0 then cE else e1 := ⟨_, rfl⟩
    have hx := HX.out
    rw [← hcE, ← he2] at hx
    have HXX := Lib.hid hx
    have HE2 := Lib.hid he2
    have HP5 := Lib.hid hp5
    have HF5 := Lib.hid hf5
    have K5 := Lib.hid (rowK n55)
    clear hp5 hf5 hl5 n55 hat5 hve hcE he2 hx HX HE1 PF d1
    go_upto_if 17 with (fail)
    go_cut [] (fun wx => PS wx b l vk e2 ∧ Fr w4 wx b none)
    case first =>
      by_cases h0 : e1 = 0
      · subst h0
        have HE := Lib.hid (HE2.out.trans (if_pos rfl))
        go_wp2_with (with_reducible show wpList _ _ _ _ _ _; refine wpList_load_allW rfl 24 (.tmp 5) rfl ⟨g5,0,none⟩ rfl y.cells _ K5.out Tryz.underlying24 rfl (Tryz.valSize y) ?_)
        refine CK.out.mono ?_
        rintro en w6 ⟨rfl, hb6⟩
        have hp6 := HP5.out.keep (hb6.block b HP5.out.lt)
        have f6 := hp6.fz 2
        have c6 := hp6.c2
        have RL := Lib.hid (show PS (w6.setCell ⟨b, 2, none⟩ (.int .i64 cE)) b l vk e2 ∧ Fr w4 (w6.setCell ⟨b, 2, none⟩ (.int .i64 cE)) b none by
          rw [HE.out]
          exact ⟨hp6.setErr cE, (HF5.out.trans (Or.inl rfl) (below_frZ hb6 b)).set 2 _⟩)
        clear hp6 hb6
        go_wp2_with fail
        go_meet
        all_goals exact RL.out
      · have HE := Lib.hid (HE2.out.trans (if_neg h0))
        have h0' : (e1 == 0) = false := by simpa using h0
        go_wp2_with fail
        go_meet
        all_goals exact ⟨by rw [HE.out]; exact HP5.out, HF5.out⟩
    case rest =>
      obtain ⟨hp7, hf7⟩ := hcut
      have e7 := hp7.c2
      have hl5 := HL5.out
      have hh := HL.out
      have N7 := Lib.hid ((hf7.block g2 (by omega) (by omega) (fun e => by cases e)).trans N4.out)
      have K7 := Lib.hid (rowK ((hf7.block g5 hl5.2.2 (by omega) (fun e => by cases e)).trans N5.out))
      have HAT7 := Lib.hid (show y.At wc.heap.size wc from (HAT4.out.keepT HIN.out (fun q h1 h2 => hf7.block q h1 (by omega) (fun e => by cases e))).mono hf7.size)
      have HB7 := Lib.hid (show Below w.heap.size w wc from fr_new HB4.out HB4.out.size hf7 hh.2.2.2.2 (fun g hg => by cases hg))
      have HX7 := Lib.hid hp7
      clear hp7 hf7 hl5 e5 g5c
      by_cases h0 : e2 = 0
      · subst h0
        have hx := HXX.out
        rw [if_pos rfl] at hx
        have hh := HL.out
        have RL := Lib.hid (dcd_end (X := X) (by rw [hx, HY.out]) HB7.out HAT7.out HIN.out (show g2 < w2.heap.size by omega) hh.2.2.2.1 hh.1)
        rw [show X.2 = 0 by rw [hx]] at RL
        clear hx hh
        go_wp2_with (first
          | (with_reducible show wpList _ _ _ _ _ _; refine wpList_load_allW rfl 24 (.tmp 5) rfl ⟨g5,0,none⟩ rfl y.cells _ K7.out Tryz.underlying24 rfl (Tryz.valSize y) ?_)
          | (with_reducible show wpList _ _ _ _ _ _; refine wpList_store_whole rfl 24 (.tmp 2) (.tmp 27) rfl g2 24 z4.toArray y.cells.toArray rfl rfl N7.out (Tryz.valSize' y) (VT.fourZ y) y.cells_one ?_))
        refine bodyPost_ret (results_row_tmp rfl _ _ g2 24 y.cells (0, 0) _ _ rfl rfl (setRow_heap _ g2 _ _ _ _ N7.out) Tryz.underlying24 rfl (Tryz.valSize y)) rfl ?_
        exact RL.out
      · have hx := HXX.out
        rw [if_neg h0] at hx
        have h0' : (e2 != 0) = true := by simpa using h0
        have hh := HL.out
        go_upto_region 8 with fail
        have NG := Lib.hid (show wc.drew.heap[g2]? = some (.cells z4.toArray 24 (0, 0)) from N7.out)
        have RL := Lib.hid (dcd_end (X := X) (y := zV) (wz := wc.drew) (by rw [hx, zV_nz]) (show Below w.heap.size w wc.drew from below_drewG HB7.out 1) (mk0_at (by decide) (by decide) (by decide)) mk0_in (show g2 < w2.heap.size by omega) hh.2.2.2.1 hh.1)
        rw [show X.2 = e2 by rw [hx]] at RL
        obtain ⟨ZZ, hZZ⟩ : ∃ ZZ, ZZ = zV := ⟨_, rfl⟩
        rw [← hZZ] at RL
        have hzc : ZZ.cells.toArray = #[.int .i64 0, .int .i64 0, .string ⟨#[]⟩, .slice none 0 0] := by rw [hZZ]; rfl
        rw [hzc] at RL
        have ZS := Lib.hid (show z4.toArray.size = (#[.int .i64 0, .int .i64 0, .string ⟨#[]⟩, .slice none 0 0] : Array Value).size from rfl)
        have ON := Lib.hid (show (#[.int .i64 0, .int .i64 0, .string ⟨#[]⟩, .slice none 0 0] : Array Value).all (·.oneCell') = true by rw [← hzc]; exact ZZ.cells_one)
        have SB := Lib.hid (show (Tryz.prog.info? 24).map (·.size) = some (#[.int .i64 0, .int .i64 0, .string ⟨#[]⟩, .slice none 0 0] : Array Value).size by kernel_rfl)
        have hs1 : (wc.drew.setRow g2 #[.int .i64 0, .int .i64 0, .string ⟨#[]⟩, .slice none 0 0]).heap[g2]? = some (.cells #[.int .i64 0, .int .i64 0, .string ⟨#[]⟩, .slice none 0 0] 24 (0, 0)) := setRow_heap _ g2 _ _ _ _ NG.out
        have CB : ∀ W, W = wc.drew ∨ W = wc.drew.setRow g2 #[.int .i64 0, .int .i64 0, .string ⟨#[]⟩, .slice none 0 0] → W.cell? ⟨b, 2, none⟩ = some (.int .i64 e2) := fun W hW => by
          rcases hW with rfl | rfl
          · exact HX7.out.c2
          · exact (HX7.out.keep (w' := wc.drew.setRow g2 #[.int .i64 0, .int .i64 0, .string ⟨#[]⟩, .slice none 0 0]) (setRow_other wc.drew g2 b _ (by omega))).c2
        have HCB := Lib.hid CB
        have HS1 := Lib.hid hs1
        clear hh hZZ hzc hx CB hs1
        refine wp_region_slots (by kernel_rfl) (by kernel_rfl) (fun y => ⟨#[Value.string S, undef, Value.pointer (some ⟨g2, 0, none⟩), y 4, Value.pointer (some ⟨b, 0, none⟩), Value.pointer (some ⟨g5, 0, none⟩), u6, u7, u8, u9, u10, u11, u12, u13, u14, u15, u16, u17, u18, u19, u20, Value.pointer (some ⟨b, 2, none⟩), Value.int IntKind.i64 e2, Value.bool true, y 0, y 1, y 2, u27], []⟩)
          (fun j v _ => PeF b e2 j v) (fun L W => (L 3 = false → W = wc.drew) ∧ (L 3 = true → W = wc.drew.setRow g2 #[.int .i64 0, .int .i64 0, .string ⟨#[]⟩, .slice none 0 0])) (fun _ _ => True) (fun _ _ _ _ _ h => h) ?_ ?_
          (fun j => if j = 4 then .int .i64 0 else if j = 0 then u24 else if j = 1 then u25 else u26) rfl ⟨fun _ => rfl, fun h => by cases h⟩
        · intro i o ho L y wx hd hi hy hs
          have hs' : ∀ i, i ≠ 3 → ((upd L i true 3 = false → wx = wc.drew) ∧ (upd L i true 3 = true → wx = wc.drew.setRow g2 #[.int .i64 0, .int .i64 0, .string ⟨#[]⟩, .slice none 0 0])) := fun i h => by rw [upd_ne _ _ (Ne.symm h)]; exact hs
          match i, ho with
          | 0, ho =>
            obtain rfl := Option.some.inj ho
            refine slot_run (v := .agg #[.int .i64 0, .int .i64 0, .string ⟨#[]⟩, .slice none 0 0]) (w' := wx) ?_ ⟨_, rfl, trivial, rfl, hs' 0 (by decide)⟩
            go_simp
          | 1, ho =>
            obtain rfl := Option.some.inj ho
            refine slot_run (v := .pointer (some ⟨b, 2, none⟩)) (w' := wx) ?_ ⟨_, rfl, trivial, rfl, hs' 1 (by decide)⟩
            go_simp
          | 2, ho =>
            obtain rfl := Option.some.inj ho
            have ya : y 1 = .pointer (some ⟨b, 2, none⟩) := hy 1 (hd ⟨1, .data⟩ (by simp) rfl)
            have cc : wx.cell? ⟨b, 2, none⟩ = some (.int .i64 e2) := HCB.out wx (by
              rcases hb3 : L 3 with _ | _
              · exact .inl (hs.1 hb3)
              · exact .inr (hs.2 hb3))
            refine slot_run (v := .int .i64 e2) (w' := wx) ?_ ⟨_, rfl, trivial, rfl, hs' 2 (by decide)⟩
            refine runPe (fun z => match z with | .tmp 25 => y 1 | _ => undef) (by kernel_rfl) ?_
            rw [ya]
            go_simp
          | 3, ho =>
            obtain rfl := Option.some.inj ho
            have ya : y 0 = .agg #[.int .i64 0, .int .i64 0, .string ⟨#[]⟩, .slice none 0 0] := hy 0 (hd ⟨0, .data⟩ (by simp) rfl)
            have hw := hs.1 hi
            subst hw
            refine slot_store 24 (.tmp 2) (.tmp 24) rfl g2 24 z4.toArray #[.int .i64 0, .int .i64 0, .string ⟨#[]⟩, .slice none 0 0] rfl ya NG.out SB.out ZS.out ON.out ⟨undef, rfl, trivial, trivial, ?_⟩
            rw [upd_self]
            exact ⟨fun h => (by cases h), fun _ => rfl⟩
          | 4, ho =>
            obtain rfl := Option.some.inj ho
            have ya : y 2 = .int .i64 e2 := hy 2 (hd ⟨2, .data⟩ (by simp) rfl)
            refine slot_run (v := .int .i64 e2) (w' := wx) ?_ ⟨_, rfl, trivial, rfl, hs' 4 (by decide)⟩
            refine runPe (fun z => match z with | .tmp 26 => y 2 | _ => undef) (by kernel_rfl) ?_
            rw [ya]
            go_simp
          | i + 5, ho => simp at ho
        · intro L y wx hall hy hs
          have y4 : y 4 = .int .i64 e2 := hy 4 (hall 4 (by decide))
          have hw := hs.2 (hall 3 (by decide))
          subst hw
          rw [y4]
          go_wp2_with fail
          refine bodyPost_ret (results_row_tmp rfl _ _ g2 24 [.int .i64 0, .int .i64 0, .string ⟨#[]⟩, .slice none 0 0] (0, 0) _ _ rfl rfl HS1.out Tryz.underlying24 rfl SB.out) rfl ?_
          have R2 := RL.out
          exact R2
end Go.Proofs.YthfjahagmfgfeaaGreatDoor.Wi
/- Parts. -/
namespace Go.Proofs.YthfjahagmfgfeaaGreatDoor.Wi
open Go Go.RowKit
set_option linter.unusedVariables false
set_option linter.unusedSimpArgs false
mutual
/-- How many values a value is. -/
def VT.pts : VT → Nat
  | .mk k n s ao c l => if k = 3 then 1 + ptsL l else 1
def ptsL : List VT → Nat
  | [] => 0
  | x :: l => x.pts + ptsL l
end
theorem ptsL_app : ∀ (l m : List VT), ptsL (l ++ m) = ptsL l + ptsL m
  | [], m => by rw [List.nil_append, ptsL, Nat.zero_add]
  | x :: l, m => by rw [List.cons_append, ptsL, ptsL, ptsL_app l m]; omega
theorem ptsL_take {l : List VT} {j : Nat} {x : VT} (h : l[j]? = some x) : ptsL (l.take (j + 1)) = ptsL (l.take j) + x.pts := by
  have e : l.take (j + 1) = l.take j ++ [x] := by rw [List.take_add_one, h]; rfl
  rw [e, ptsL_app, ptsL, ptsL]
  omega
theorem ptsL_le (l : List VT) (j : Nat) : ptsL (l.take j) ≤ ptsL l := by
  have h := ptsL_app (l.take j) (l.drop j)
  rw [List.take_append_drop] at h
  omega
def PtAny (v : VT) : Prop := ∀ (N : Nat) (w : World), v.At N w → N ≤ w.heap.size → v.pts ≤ 4611686018427387904 → Calls Tryz.prog 54 #[.agg v.cells.toArray] w fun e w' => e = .returned (.int .i64 (v.pts : Int)) ∧ Below w.heap.size w w'
def ptRel (w : World) (l : List VT) (i s : Value) (wr : World) : Prop := ∃ j : Nat, i = .int .i64 (j : Int) ∧ j ≤ l.length ∧ s = .int .i64 ((1 + ptsL (l.take j) : Nat) : Int) ∧ Below w.heap.size w wr
set_option maxHeartbeats 8000000 in
set_option maxRecDepth 100000 in
theorem pts_any : ∀ v : VT, PtAny v := by
  intro v
  induction v using VT.ind with
  | h k n s ao c l ih =>
    intro N w hv hN hlim
    obtain ⟨hk, hn, hs, hll⟩ := hv.fit
    obtain ⟨w1, hw1⟩ : ∃ bx, bx = w.alloc (.cells #[.int .i64 k, .int .i64 n, .string (str s), .slice ao l.length c] 24) := ⟨_, rfl⟩
    obtain ⟨g, hg⟩ : ∃ bx, bx = w.heap.size := ⟨_, rfl⟩
    have bw1 : Below w.heap.size w w1 := by rw [hw1]; exact (Below.refl _ _).alloc (Nat.le_refl _) _
    have nw1 : w1.heap[g]? = some (.cells (VT.mk k n s ao c l).cells.toArray 24 (0, 0)) := by rw [hw1, hg]; exact heap_alloc_new _ _
    have c0 : w1.cell? ⟨g, 0, none⟩ = some (.int .i64 k) := by have h := rowK nw1 0 _ rfl; rwa [Addr.add_mid] at h
    have c3 : w1.cell? ⟨g, 3, none⟩ = some (.slice ao l.length c) := by have h := rowK nw1 3 _ rfl; rwa [Addr.add_mid] at h
    show Calls Tryz.prog 54 #[.agg #[.int .i64 k, .int .i64 n, .string (str s), .slice ao l.length c]] w _
    obtain ⟨P, hP⟩ : ∃ P, P = (VT.mk k n s ao c l).pts := ⟨_, rfl⟩
    rw [← hP] at hlim ⊢
    rw [VT.pts] at hP
    obtain ⟨S, hS⟩ : ∃ S, S = str s := ⟨_, rfl⟩
    rw [← hS] at hw1 ⊢
    have HP := Lib.hid hP
    have HW1 := Lib.hid hw1
    have HG := Lib.hid hg
    have BW1 := Lib.hid bw1
    have HV := Lib.hid hv
    have IH := Lib.hid ih
    have HLIM := Lib.hid hlim
    clear hP hw1 hg bw1 nw1 hv ih hS hlim
    go_enter Tryz.func54, Tryz.ntmps54
    go_upto_region 1 with fail
    rw [← HW1.out, ← HG.out]
    by_cases h3 : k = 3
    · subst h3
      have hp := HP.out.trans (if_pos rfl)
      have HPP := Lib.hid hp
      have R0 := Lib.hid (show ptRel w l (.int .i64 0) (.int .i64 1) w1 from ⟨0, rfl, Nat.zero_le _, rfl, BW1.out⟩)
      clear hp
      go_wp2_with fail
      go_loopw [12, 3] (fun i s wr => ptRel w l i s wr) (fun i _ _ => l.length - (intOf i).toNat)
      case atStart => exact R0.out
      case round =>
        obtain ⟨wq, rfl⟩ : ∃ wq : World, wq = wr := ⟨_, rfl⟩
        obtain ⟨j, rfl, hj, rfl, hbq⟩ := hrel
        have q0 : (0 : Int) ≤ (j : Int) := by omega
        have HBq := Lib.hid hbq
        have hle := ptsL_le l j
        obtain ⟨m, hm⟩ : ∃ m, m = 1 + ptsL (l.take j) := ⟨_, rfl⟩
        rw [← hm]
        have HM := Lib.hid hm
        clear hbq R0 hm c0 c3
        by_cases hjl : j < l.length
        · have q1 : (j : Int) < (l.length : Int) := by omega
          obtain ⟨x, hx⟩ : ∃ x, l[j]? = some x := ⟨_, List.getElem?_eq_getElem hjl⟩
          obtain ⟨hxv, ad, rfl, had, hxc⟩ := HV.out.elem hx
          have nb : ∀ k, k < N → wq.heap[k]? = w.heap[k]? := fun k hk => HBq.out.block k (by omega)
          have hNq := Nat.le_trans hN HBq.out.size
          have KX := Lib.hid (hxc wq nb)
          have htk := ptsL_take hx
          have hle2 := ptsL_le l (j + 1)
          have hpx : m + x.pts = 1 + ptsL (l.take (j + 1)) := by have := HM.out; omega
          have hpl : m + x.pts ≤ 4611686018427387904 := by have h1 := HLIM.out; have h2 := HPP.out; omega
          obtain ⟨w5, hw5⟩ : ∃ bx, bx = wq.alloc (.cells x.cells.toArray 24) := ⟨_, rfl⟩
          obtain ⟨g5, hg5⟩ : ∃ bx, bx = wq.heap.size := ⟨_, rfl⟩
          have bw5 : Below wq.heap.size wq w5 := by rw [hw5]; exact (Below.refl _ _).alloc (Nat.le_refl _) _
          have nw5 : w5.heap[g5]? = some (.cells x.cells.toArray 24 (0, 0)) := by rw [hw5, hg5]; exact heap_alloc_new _ _
          have Kw5 := Lib.hid (rowK nw5)
          have Hw5 := Lib.hid hw5
          have Hg5 := Lib.hid hg5
          have Bw5 := Lib.hid bw5
          have Nw5 := Lib.hid nw5
          clear hw5 hg5 bw5 nw5
          have CX := Lib.hid (IH.out x (List.mem_of_getElem? hx) N w5 ((hxv.keep nb).below (Bw5.out.mono hNq)) (Nat.le_trans hNq Bw5.out.size) (by omega))
          obtain ⟨p, hpp⟩ : ∃ p, p = x.pts := ⟨_, rfl⟩
          rw [← hpp] at CX hpx hpl
          have HPX := Lib.hid hpx
          have HB5 := Lib.hid (HBq.out.trans (Bw5.out.mono HBq.out.size))
          have b1 : -9223372036854775808 ≤ (m : Int) + (p : Int) ∧ (m : Int) + (p : Int) ≤ 9223372036854775807 := by omega
          clear hxv hxc had hx nb hNq htk hle2 hpx hpl hpp hle
          go_wp2_with (first
            | (with_reducible show wpList _ _ _ _ _ _; refine wpList_load_allW rfl 24 (.tmp 14) rfl _ rfl x.cells _ KX.out Tryz.underlying24 rfl (Tryz.valSize x) ?_)
            | (with_reducible show wpList _ _ _ _ _ _; refine wpList_store_newW rfl 24 (.tmp 5) (.tmp 15) rfl 24 _ x.cells.toArray rfl rfl (Tryz.valSize' x) (by with_unfolding_all exact VT.four x) x.cells_one ?_; rw [← Hw5.out, ← Hg5.out])
            | (with_reducible show wpList _ _ _ _ _ _; refine wpList_load_allW rfl 24 (.tmp 5) rfl ⟨g5,0,none⟩ rfl x.cells _ Kw5.out Tryz.underlying24 rfl (Tryz.valSize x) ?_))
          refine CX.out.mono ?_
          rintro e w6 ⟨rfl, hb6⟩
          have RL := Lib.hid (show ptRel w l (.int .i64 ((j + 1 : Nat) : Int)) (.int .i64 ((m : Int) + (p : Int))) w6 from ⟨j + 1, rfl, hjl, by rw [← HPX.out]; rfl, HB5.out.trans (hb6.mono HB5.out.size)⟩)
          clear hb6
          go_wp2_with fail
          exact ⟨RL.out, by simp [intOf]; omega⟩
        · have q1 : ¬ (j : Int) < (l.length : Int) := by omega
          have hmP : m = P := by rw [HM.out, HPP.out, List.take_of_length_le (by omega)]
          subst hmP
          go_wp2_with fail
          go_ret
          exact ⟨rfl, HBq.out⟩
    · have hp := HP.out.trans (if_neg h3)
      subst hp
      have e3 : (k == 3) = false := by simpa using h3
      go_wp2_with fail
      go_ret
      exact ⟨rfl, BW1.out⟩
theorem vparts_any (v : VT) (hd : v.dpr 65536 = false) (hlim : v.pts ≤ 4611686018427387904) (N : Nat) (w : World) (hv : v.At N w) (hN : N ≤ w.heap.size) :
    Calls Tryz.prog 21 #[.agg v.cells.toArray] w fun e w' => e = .returned (.int .i64 (v.pts : Int)) ∧ Below w.heap.size w w' := by
  obtain ⟨w1, hw1⟩ : ∃ bx, bx = w.alloc (.cells v.cells.toArray 24) := ⟨_, rfl⟩
  obtain ⟨g, hg⟩ : ∃ bx, bx = w.heap.size := ⟨_, rfl⟩
  have bw1 : Below w.heap.size w w1 := by rw [hw1]; exact (Below.refl _ _).alloc (Nat.le_refl _) _
  have nw1 : w1.heap[g]? = some (.cells v.cells.toArray 24 (0, 0)) := by rw [hw1, hg]; exact heap_alloc_new _ _
  have Kw1 := Lib.hid (rowK nw1)
  have Hw1 := Lib.hid hw1
  have Hg := Lib.hid hg
  have Bw1 := Lib.hid bw1
  have Nw1 := Lib.hid nw1
  clear hw1 hg bw1 nw1
  have EN := Lib.hid (endless_any v N w1 (hv.below (Bw1.out.mono hN)) (Nat.le_trans hN Bw1.out.size))
  rw [hd] at EN
  have PA := Lib.hid (fun (W : World) (hb : Below w.heap.size w W) => pts_any v N W (hv.below (hb.mono hN)) (Nat.le_trans hN hb.size) hlim)
  obtain ⟨Q, hQ⟩ : ∃ Q, Q = v.pts := ⟨_, rfl⟩
  rw [← hQ] at PA ⊢
  clear hQ hv hlim hd
  go_enter Tryz.func21, Tryz.ntmps21
  go_upto_region 1 with fail
  rw [← Hw1.out, ← Hg.out]
  go_wp2_with (with_reducible show wpList _ _ _ _ _ _; refine wpList_load_allW rfl 24 (.tmp 1) rfl ⟨g,0,none⟩ rfl v.cells _ Kw1.out Tryz.underlying24 rfl (Tryz.valSize v) ?_)
  refine EN.out.mono ?_
  rintro e w2 ⟨rfl, hb2⟩
  have HB2 := Lib.hid (Bw1.out.trans (hb2.mono Bw1.out.size))
  have K2 := Lib.hid (rowK ((hb2.block g (lt_of_rowK Nw1.out)).trans Nw1.out))
  have HPA := Lib.hid (PA.out w2 HB2.out)
  clear hb2 PA
  go_wp2_with (with_reducible show wpList _ _ _ _ _ _; refine wpList_load_allW rfl 24 (.tmp 1) rfl ⟨g,0,none⟩ rfl v.cells _ K2.out Tryz.underlying24 rfl (Tryz.valSize v) ?_)
  refine HPA.out.mono ?_
  rintro e w3 ⟨rfl, hb3⟩
  have RL := Lib.hid (HB2.out.trans (hb3.mono HB2.out.size))
  clear hb3
  go_wp2_with fail
  go_ret
  exact ⟨rfl, RL.out⟩
end Go.Proofs.YthfjahagmfgfeaaGreatDoor.Wi
