/- Read, Decode. -/
import Derived.Test.YtnfobnnbeefeeaaGreatDoorG5
import Derived.Test.YtnfobnnbeefeeaaGreatDoorG2
import Derived.Test.YtnfobnnbeefeeaaGreatDoorG3
import Derived.Test.YtnfobnnbeefeeaaGreatDoorG1
import Derived.Test.YtnfobnnbeefeeaaGreatDoorG4
namespace Go.Proofs.YtnfobnnbeefeeaaGreatDoor.Wi
open Go Go.RowKit
set_option linter.unusedVariables false
set_option linter.unusedSimpArgs false
def zV : VT := .mk 0 0 [] none 0 []
/-- What Read reads: the value, how far, the error. -/
def rdV (xs : List UInt8) (k : Nat) (e : Int) : VT × Nat × Int :=
  let X := dV xs 9 0 0 k e
  let e2 := if X.2.2.2 = 0 then (if (512 : Int) < (X.2.2.1 : Int) - (k : Int) then 2 else 0) else X.2.2.2
  (if e2 = 0 then X.1 else zV, X.2.2.1, e2)
def RdvPost (w : World) (b : Nat) (r : Option Nat) (xs : List UInt8) (X : VT × Nat × Int) (e : Ending) (w' : World) : Prop :=
  ∃ y : VT, e = .returned (.agg y.cells.toArray) ∧ y.nz = X.1 ∧ y.At w'.heap.size w' ∧ y.In (w.heap.size ≤ ·) ∧ Rd w' b r xs X.2.1 X.2.2 ∧ Fr w w' b none
theorem zV_nz : zV.nz = zV := by unfold zV; rw [VT.nz]; rfl
theorem rdv_end {w wz : World} {b g2 B k' : Nat} {r : Option Nat} {xs : List UInt8} {e' : Int} {y : VT} {X : VT × Nat × Int} (hX : X = (y.nz, k', e')) (hS : Rd wz b r xs k' e') (hF : Fr w wz b none) (hy : y.At wz.heap.size wz) (hin : y.In (B ≤ ·)) (hB : g2 < B) (hwB : w.heap.size ≤ B)
    (hg2 : w.heap.size ≤ g2) (hb : b < w.heap.size) (hr : ∀ g, r = some g → g < w.heap.size) : RdvPost w b r xs X (.returned (.agg y.cells.toArray)) (wz.setRow g2 y.cells.toArray) := by
  subst hX
  have st : ∀ q, q ≠ g2 → (wz.setRow g2 y.cells.toArray).heap[q]? = wz.heap[q]? := fun q hq => setRow_other wz g2 q _ hq
  refine ⟨y, rfl, rfl, ?_, hin.imp fun q hq => Nat.le_trans hwB hq, hS.keep (st b (by omega)) (fun g hg => st g (by have := hr g hg; omega)), ⟨hF.os, hF.tape, hF.output, by simpa using hF.size, fun q hq h1 h2 => (st q (by omega)).trans (hF.block q hq h1 h2)⟩⟩
  exact (hy.keepT hin (fun q _ h2 => st q (by omega))).mono (by simp)
set_option maxHeartbeats 16000000 in
set_option maxRecDepth 100000 in
theorem vread_any {w : World} {b : Nat} {r : Option Nat} {xs : List UInt8} {k : Nat} {e : Int} (h : Rd w b r xs k e) (hsz : xs.length ≤ 140737488355328) :
    Calls Tryz.prog 114 #[.pointer (some ⟨b, 0, none⟩)] w (RdvPost w b r xs (rdV xs k e)) := by
  have hlt := h.lt
  have hrl := h.rlt
  have hke := h.1
  obtain ⟨w1, hw1⟩ : ∃ w1, w1 = w.alloc (.cells z4.toArray 26) := ⟨_, rfl⟩
  obtain ⟨g2, hg2⟩ : ∃ g, g = w.heap.size := ⟨_, rfl⟩
  have hb1 : Below w.heap.size w w1 := by rw [hw1]; exact (Below.refl _ _).alloc (Nat.le_refl _) _
  have n1 : w1.heap[g2]? = some (.cells z4.toArray 26 (0, 0)) := by rw [hw1, hg2]; exact heap_alloc_new _ _
  have hR1 := h.below (B := 0) hb1
  obtain ⟨w2, hw2⟩ : ∃ w2, w2 = w1.alloc (.cells #[.pointer (some ⟨b, 0, none⟩), .int .i64 0] 163) := ⟨_, rfl⟩
  obtain ⟨db, hdb⟩ : ∃ g, g = w1.heap.size := ⟨_, rfl⟩
  have hb2 : Below w1.heap.size w1 w2 := by rw [hw2]; exact (Below.refl _ _).alloc (Nat.le_refl _) _
  have n2 : w2.heap[db]? = some (.cells #[.pointer (some ⟨b, 0, none⟩), .int .i64 0] 163 (0, 0)) := by rw [hw2, hdb]; exact heap_alloc_new _ _
  have hs1 := hb1.size
  have hg2l : g2 < w1.heap.size := lt_of_rowK n1
  have hS2 : DcS w2 db b r xs 0 k e := ⟨n2, hR1.below (B := 0) hb2, by omega, fun g hg => by have := hrl g hg; omega⟩
  have n12 := (hb2.block g2 hg2l).trans n1
  have hbw := hb1.trans (hb2.mono hb1.size)
  have AT := Lib.hid (at_any hR1)
  have DV := dec_any 9 0 0 k e w2 db b r xs rfl (by decide) (by decide) hsz hS2
  rw [show ((0 : Nat) : Int) = 0 from rfl] at DV
  have hrv : rdV xs k e = (if (if (dV xs 9 0 0 k e).2.2.2 = 0 then (if (512 : Int) < ((dV xs 9 0 0 k e).2.2.1 : Int) - (k : Int) then (2 : Int) else 0) else (dV xs 9 0 0 k e).2.2.2) = 0 then (dV xs 9 0 0 k e).1 else zV, (dV xs 9 0 0 k e).2.2.1, if (dV xs 9 0 0 k e).2.2.2 = 0 then (if (512 : Int) < ((dV xs 9 0 0 k e).2.2.1 : Int) - (k : Int) then (2 : Int) else 0) else (dV xs 9 0 0 k e).2.2.2) := rfl
  obtain ⟨X, hX⟩ : ∃ X, X = rdV xs k e := ⟨_, rfl⟩
  rw [← hX] at hrv ⊢
  obtain ⟨V, hV⟩ : ∃ V, V = dV xs 9 0 0 k e := ⟨_, rfl⟩
  rw [← hV] at DV hrv
  clear hX hV
  obtain ⟨v1, vp, vk, ve⟩ := V
  dsimp only at hrv
  have HDV := Lib.hid DV
  have HRV := Lib.hid hrv
  have N12 := Lib.hid n12
  have HBW := Lib.hid hbw
  have HW1 := Lib.hid (show w1 = w.alloc (.cells #[.int .i64 0, .int .i64 0, .string ⟨#[]⟩, .slice none 0 0] 26) from hw1)
  have HG2 := Lib.hid hg2
  have HW2 := Lib.hid hw2
  have HDB := Lib.hid hdb
  have HL := Lib.hid (show b < w.heap.size ∧ w.heap.size ≤ g2 ∧ g2 < db ∧ db < w2.heap.size ∧ w.heap.size ≤ w2.heap.size from ⟨hlt, by omega, by omega, lt_of_rowK n2, hbw.size⟩)
  have HRL := Lib.hid hrl
  have SD := Lib.hid (show (Tryz.prog.info? 163).map (·.size) = some (#[.pointer (some ⟨b, 0, none⟩), .int .i64 0] : Array Value).size by kernel_rfl)
  clear hlt hrl hw1 hg2 hb1 n1 hR1 hw2 hdb hb2 n2 hs1 hg2l hS2 n12 hbw DV hrv h
  go_enter Tryz.func114, Tryz.ntmps114
  go_upto_region 1 with fail
  rw [← HW1.out, ← HG2.out]
  go_wp2_with fail
  refine AT.out.mono ?_
  rintro q wq ⟨rfl, hq⟩
  subst hq
  go_upto_region 3 with (with_reducible show wpList _ _ _ _ _ _; refine wpList_store_newW rfl 163 (.tmp 4) (.tmp 9) rfl 163 _ #[.pointer (some ⟨b, 0, none⟩), .int .i64 0] rfl rfl SD.out rfl rfl ?_)
  rw [← HW2.out, ← HDB.out]
  go_wp2_with fail
  refine HDV.out.mono ?_
  rintro q w3 ⟨y, rfl, hy1, hy2, hy3, hS3, hF3⟩
  dsimp only at hy1 hS3
  have hl := HL.out
  have n13 := (hF3.block g2 (by omega) (by omega) (by omega)).trans N12.out
  obtain ⟨w4, hw4⟩ : ∃ w4, w4 = w3.alloc (.cells y.cells.toArray 26) := ⟨_, rfl⟩
  obtain ⟨g5, hg5⟩ : ∃ g, g = w3.heap.size := ⟨_, rfl⟩
  have hb4 : Below w3.heap.size w3 w4 := by rw [hw4]; exact (Below.refl _ _).alloc (Nat.le_refl _) _
  have n5 : w4.heap[g5]? = some (.cells y.cells.toArray 26 (0, 0)) := by rw [hw4, hg5]; exact heap_alloc_new _ _
  have n14 := (hb4.block g2 (lt_of_rowK n13)).trans n13
  have hR4 : Rd w4 b r xs vk ve := hS3.rd.below (B := 0) hb4
  have hF4 : Fr w w4 b none := by
    have f3 := hF3
    have hb0 := HBW.out
    refine ⟨hb4.os.trans (f3.os.trans hb0.os), hb4.tape.trans (f3.tape.trans hb0.tape), hb4.output.trans (f3.output.trans hb0.output), Nat.le_trans hb0.size (Nat.le_trans f3.size hb4.size), fun q hq h1 _ => ?_⟩
    exact (hb4.block q (by have := f3.size; omega)).trans ((f3.block q (by omega) h1 (by omega)).trans (hb0.block q hq))
  have hat4 : y.At w4.heap.size w4 := (hy2.below hb4).mono hb4.size
  have hs3 := hF3.size
  have HY := Lib.hid hy1
  have HIN := Lib.hid hy3
  have HAT4 := Lib.hid hat4
  have HR4 := Lib.hid hR4
  have HF4 := Lib.hid hF4
  have N14 := Lib.hid n14
  have N5 := Lib.hid n5
  have HW4 := Lib.hid hw4
  have HG5 := Lib.hid hg5
  have HL5 := Lib.hid (show g2 < g5 ∧ g5 < w4.heap.size ∧ b < g5 from ⟨by omega, lt_of_rowK n5, by omega⟩)
  have ER := Lib.hid (err_any hR4)
  have AT4 := Lib.hid (at_any hR4)
  clear hy1 hy2 hy3 hS3 hF3 hl n13 hw4 hg5 hb4 n5 n14 hR4 hF4 hat4 hs3
  go_upto_region 4 with (with_reducible show wpList _ _ _ _ _ _; refine wpList_store_newW rfl 26 (.tmp 5) (.tmp 10) rfl 26 _ y.cells.toArray rfl rfl (Tryz.valSize' y) (by with_unfolding_all exact VT.four y) y.cells_one ?_; rw [← HW4.out, ← HG5.out])
  go_wp2_with fail
  refine ER.out.mono ?_
  rintro q wq ⟨rfl, hq⟩
  subst hq
  by_cases he : ve = 0
  · subst he
    have hd : -9223372036854775808 ≤ (vk : Int) - (k : Int) ∧ (vk : Int) - (k : Int) ≤ 9223372036854775807 := by
      have := HR4.out.1
      omega
    have AM := Lib.hid (fun W => atMost_any ((vk : Int) - (k : Int)) 512 W)
    obtain ⟨a, ha⟩ : ∃ a : Int, a = (if (512 : Int) < (vk : Int) - (k : Int) then 2 else 0) := ⟨_, rfl⟩
    have hrv := HRV.out
    rw [if_pos rfl, ← ha] at hrv
    rw [← ha] at AM
    have HRV2 := Lib.hid hrv
    have FA := Lib.hid (fail_any HR4.out a)
    have hfa : fe 0 a = a := by unfold fe; rw [if_pos rfl]
    rw [hfa] at FA
    clear hrv ha hfa
    go_wp2_with fail
    refine AT4.out.mono ?_
    rintro q wq ⟨rfl, hq⟩
    subst hq
    go_wp2_with fail
    refine (AM.out _).mono ?_
    rintro q wq ⟨rfl, hq⟩
    have hq' := hq.symm
    subst hq'
    clear hq
    go_wp2_with fail
    refine FA.out.mono ?_
    rintro q w5 ⟨rfl, hr5, hf5⟩
    have hl5 := HL5.out
    have hl := HL.out
    have n25 := (hf5.block g2 (by omega) (by omega) (fun e => by cases e)).trans N14.out
    have n55 := (hf5.block g5 hl5.2.1 (by omega) (fun e => by cases e)).trans N5.out
    have hat5 : y.At w5.heap.size w5 := (HAT4.out.keepT HIN.out (fun q h1 h2 => hf5.block q h1 (by omega) (fun e => by cases e))).mono hf5.size
    have hF5 := HF4.out.trans (Or.inl rfl) hf5
    have ER5 := Lib.hid (err_any hr5)
    have HR5 := Lib.hid hr5
    have HF5 := Lib.hid hF5
    have HAT5 := Lib.hid hat5
    have N25 := Lib.hid n25
    have K5 := Lib.hid (rowK n55)
    clear hr5 hf5 hl5 hl n25 n55 hat5 hF5
    go_wp2_with fail
    refine ER5.out.mono ?_
    rintro q wq ⟨rfl, hq⟩
    subst hq
    by_cases ha : a = 0
    · subst ha
      have hrv := HRV2.out
      rw [if_pos rfl] at hrv
      have hl := HL.out
      have RL := Lib.hid (rdv_end (X := X) (by rw [HY.out]; exact hrv) HR5.out HF5.out HAT5.out HIN.out (show g2 < w2.heap.size by omega) hl.2.2.2.2 hl.2.1 hl.1 HRL.out)
      clear hrv hl
      go_wp2_with (first
        | (with_reducible show wpList _ _ _ _ _ _; refine wpList_load_allW rfl 26 (.tmp 5) rfl ⟨g5,0,none⟩ rfl y.cells _ K5.out Tryz.underlying26 rfl (Tryz.valSize y) ?_)
        | (with_reducible show wpList _ _ _ _ _ _; refine wpList_store_whole rfl 26 (.tmp 2) (.tmp 25) rfl g2 26 z4.toArray y.cells.toArray rfl rfl N25.out (Tryz.valSize' y) (VT.fourZ y) y.cells_one ?_))
      refine bodyPost_ret (results_cell_row rfl _ _ g2 26 y.cells.toArray (0, 0) _ rfl (setRow_heap _ g2 _ _ _ _ N25.out) Tryz.underlying26 rfl (Tryz.valSize' y)) rfl ?_
      exact RL.out
    · have hrv := HRV2.out
      rw [if_neg ha] at hrv
      have hl := HL.out
      have RL := Lib.hid (rdv_end (X := X) (y := zV) (B := w2.heap.size) (by rw [zV_nz]; exact hrv) HR5.out HF5.out (mk0_at (by decide) (by decide) (by decide)) mk0_in (show g2 < w2.heap.size by omega) hl.2.2.2.2 hl.2.1 hl.1 HRL.out)
      obtain ⟨ZZ, hZZ⟩ : ∃ ZZ, ZZ = zV := ⟨_, rfl⟩
      rw [← hZZ] at RL
      have hzc : ZZ.cells.toArray = #[.int .i64 0, .int .i64 0, .string ⟨#[]⟩, .slice none 0 0] := by rw [hZZ]; rfl
      rw [hzc] at RL
      have ZS := Lib.hid (show z4.toArray.size = (#[.int .i64 0, .int .i64 0, .string ⟨#[]⟩, .slice none 0 0] : Array Value).size from rfl)
      have ON := Lib.hid (show (#[.int .i64 0, .int .i64 0, .string ⟨#[]⟩, .slice none 0 0] : Array Value).all (·.oneCell') = true by rw [← hzc]; exact ZZ.cells_one)
      have SB := Lib.hid (show (Tryz.prog.info? 26).map (·.size) = some (#[.int .i64 0, .int .i64 0, .string ⟨#[]⟩, .slice none 0 0] : Array Value).size by kernel_rfl)
      clear hrv hl hZZ hzc
      go_wp2_with (with_reducible show wpList _ _ _ _ _ _; refine wpList_store_whole rfl 26 (.tmp 2) (.tmp 24) rfl g2 26 z4.toArray #[.int .i64 0, .int .i64 0, .string ⟨#[]⟩, .slice none 0 0] rfl rfl N25.out SB.out ZS.out ON.out ?_)
      refine bodyPost_ret (results_cell_row rfl _ _ g2 26 #[.int .i64 0, .int .i64 0, .string ⟨#[]⟩, .slice none 0 0] (0, 0) _ rfl (setRow_heap _ g2 _ _ _ _ N25.out) Tryz.underlying26 rfl SB.out) rfl ?_
      exact RL.out
  · have hrv := HRV.out
    rw [if_neg he, if_neg he] at hrv
    have hl := HL.out
    have RL := Lib.hid (rdv_end (X := X) (y := zV) (B := w2.heap.size) (by rw [zV_nz]; exact hrv) HR4.out HF4.out (mk0_at (by decide) (by decide) (by decide)) mk0_in (show g2 < w2.heap.size by omega) hl.2.2.2.2 hl.2.1 hl.1 HRL.out)
    obtain ⟨ZZ, hZZ⟩ : ∃ ZZ, ZZ = zV := ⟨_, rfl⟩
    rw [← hZZ] at RL
    have hzc : ZZ.cells.toArray = #[.int .i64 0, .int .i64 0, .string ⟨#[]⟩, .slice none 0 0] := by rw [hZZ]; rfl
    rw [hzc] at RL
    have ZS := Lib.hid (show z4.toArray.size = (#[.int .i64 0, .int .i64 0, .string ⟨#[]⟩, .slice none 0 0] : Array Value).size from rfl)
    have ON := Lib.hid (show (#[.int .i64 0, .int .i64 0, .string ⟨#[]⟩, .slice none 0 0] : Array Value).all (·.oneCell') = true by rw [← hzc]; exact ZZ.cells_one)
    have SB := Lib.hid (show (Tryz.prog.info? 26).map (·.size) = some (#[.int .i64 0, .int .i64 0, .string ⟨#[]⟩, .slice none 0 0] : Array Value).size by kernel_rfl)
    clear hrv hl hZZ hzc
    go_wp2_with fail
    refine ER.out.mono ?_
    rintro q wq ⟨rfl, hq⟩
    subst hq
    go_wp2_with (with_reducible show wpList _ _ _ _ _ _; refine wpList_store_whole rfl 26 (.tmp 2) (.tmp 24) rfl g2 26 z4.toArray #[.int .i64 0, .int .i64 0, .string ⟨#[]⟩, .slice none 0 0] rfl rfl N14.out SB.out ZS.out ON.out ?_)
    refine bodyPost_ret (results_cell_row rfl _ _ g2 26 #[.int .i64 0, .int .i64 0, .string ⟨#[]⟩, .slice none 0 0] (0, 0) _ rfl (setRow_heap _ g2 _ _ _ _ N14.out) Tryz.underlying26 rfl SB.out) rfl ?_
    exact RL.out
end Go.Proofs.YtnfobnnbeefeeaaGreatDoor.Wi
/- The reference's walk. -/
namespace Go.Proofs.YtnfobnnbeefeeaaGreatDoor.Wi
open Go Go.RowKit
set_option linter.unusedVariables false
set_option linter.unusedSimpArgs false
def TwoI (a b : Int) (w : World) (e : Ending) (w' : World) : Prop := e = .returned (.tuple #[.int .i64 a, .int .i64 b]) ∧ Below w.heap.size w w'
def RwAny (x : VT) : Prop := ∀ (N d p : Nat) (w : World), d ≤ 8 → p ≤ 256 → x.At N w → N ≤ w.heap.size → Calls Tryz.prog 101 #[.agg x.cells.toArray, .int .i64 (d : Int), .int .i64 (p : Int)] w (TwoI (x.chk d p).1 ((x.chk d p).2 : Nat) w)
def rwRel (w : World) (l : List VT) (R : Int × Nat) (d : Nat) (pv i : Value) (wr : World) : Prop :=
  ∃ j q : Nat, i = .int .i64 (j : Int) ∧ pv = .int .i64 (q : Int) ∧ j ≤ l.length ∧ q ≤ 256 ∧ R = chkL (l.drop j) d q ∧ Below w.heap.size w wr
set_option maxHeartbeats 8000000 in
set_option maxRecDepth 100000 in
theorem rwalk_any : ∀ v : VT, RwAny v := by
  intro v
  induction v using VT.ind with
  | h k n s ao c l ih =>
    intro N d p w hd hp hv hN
    obtain ⟨hk, hn, hs, hll⟩ := hv.fit
    have hch : (VT.mk k n s ao c l).chk d p = if 256 < p + 1 then (2, p + 1) else if k = 0 ∨ k = 1 then (0, p + 1) else if k = 2 then (if 256 < s.length then 2 else 0, p + 1) else if k = 3 then (if 8 ≤ d then (30, p + 1) else if 64 < l.length then (2, p + 1) else chkL l (d + 1) (p + 1)) else (9, p + 1) := by rw [VT.chk]
    obtain ⟨R, hRR⟩ : ∃ R, R = (VT.mk k n s ao c l).chk d p := ⟨_, rfl⟩
    rw [← hRR] at hch ⊢
    clear hRR
    obtain ⟨w1, hw1⟩ : ∃ w1, w1 = w.alloc (.cells (VT.mk k n s ao c l).cells.toArray 26) := ⟨_, rfl⟩
    obtain ⟨g, hg⟩ : ∃ g, g = w.heap.size := ⟨_, rfl⟩
    have hb1 : Below w.heap.size w w1 := by rw [hw1]; exact (Below.refl _ _).alloc (Nat.le_refl _) _
    have nk : w1.heap[g]? = some (.cells (VT.mk k n s ao c l).cells.toArray 26 (0, 0)) := by rw [hw1, hg]; exact heap_alloc_new _ _
    have k0 : w1.cell? ⟨g, 0, none⟩ = some (.int .i64 k) := by rw [cell_of_rowW w1 g 0 _ _ _ nk]; rfl
    have k2 : w1.cell? ⟨g, 2, none⟩ = some (.string (str s)) := by rw [cell_of_rowW w1 g 2 _ _ _ nk]; rfl
    have k3 : w1.cell? ⟨g, 3, none⟩ = some (.slice ao l.length c) := by rw [cell_of_rowW w1 g 3 _ _ _ nk]; rfl
    have hsz := str_sizeX s
    have HB1 := Lib.hid hb1
    have HNK := Lib.hid nk
    have HG := Lib.hid hg
    have HV := Lib.hid hv
    have IH := Lib.hid ih
    have HCH := Lib.hid hch
    obtain ⟨S, hS⟩ : ∃ S, S = str s := ⟨_, rfl⟩
    have hw1b := show w1 = w.alloc (.cells #[.int .i64 k, .int .i64 n, .string (str s), .slice ao l.length c] 26) from hw1
    rw [← hS] at hw1b k2 hsz
    have HW1 := Lib.hid hw1b
    show Calls Tryz.prog 101 #[.agg #[.int .i64 k, .int .i64 n, .string (str s), .slice ao l.length c], .int .i64 (d : Int), .int .i64 (p : Int)] w _
    rw [← hS]
    have done : ∀ ec : Int, R = (ec, p + 1) → TwoI R.1 (R.2 : Nat) w (.returned (.tuple #[.int .i64 ec, .int .i64 ((p : Int) + 1)])) w1 := fun ec h => by rw [h]; exact ⟨rfl, HB1.out⟩
    have DONE := Lib.hid done
    clear hb1 nk hw1 hg hv ih hch hS hw1b done
    go_enter Tryz.func101, Tryz.ntmps101
    go_upto_region 1 with fail
    rw [← HW1.out, ← HG.out]
    by_cases h1 : 256 < p + 1
    · have RL := Lib.hid (DONE.out 2 (HCH.out.trans (if_pos h1)))
      have h1' : (256 : Int) < (p : Int) + 1 := by omega
      go_wp2_with fail
      go_ret2
      exact RL.out
    have h1' : ¬ (256 : Int) < (p : Int) + 1 := by omega
    have HC2 := Lib.hid (HCH.out.trans (if_neg h1))
    by_cases h00 : k = 0
    · have RL := Lib.hid (DONE.out 0 (HC2.out.trans (if_pos (Or.inl h00))))
      subst h00
      go_wp2_with fail
      go_ret2
      exact RL.out
    by_cases h01 : k = 1
    · have RL := Lib.hid (DONE.out 0 (HC2.out.trans (if_pos (Or.inr h01))))
      subst h01
      go_wp2_with fail
      go_ret2
      exact RL.out
    have HC3 := Lib.hid (HC2.out.trans (if_neg (by rintro (h | h); exact h00 h; exact h01 h)))
    by_cases h02 : k = 2
    · have RL := Lib.hid (DONE.out _ (HC3.out.trans (if_pos h02)))
      subst h02
      by_cases h6 : 256 < s.length
      · have h6' : (256 : Int) < (S.size : Int) := by omega
        have RL2 := RL.out
        rw [if_pos h6] at RL2
        have RL3 := Lib.hid RL2
        clear RL2
        go_wp2_with fail
        go_ret2
        exact RL3.out
      · have h6' : ¬ (256 : Int) < (S.size : Int) := by omega
        have RL2 := RL.out
        rw [if_neg h6] at RL2
        have RL3 := Lib.hid RL2
        clear RL2
        go_wp2_with fail
        go_ret2
        exact RL3.out
    have HC4 := Lib.hid (HC3.out.trans (if_neg h02))
    by_cases h03 : k = 3
    · have HC5 := Lib.hid (HC4.out.trans (if_pos h03))
      subst h03
      by_cases h8 : 8 ≤ d
      · have RL := Lib.hid (DONE.out _ (HC5.out.trans (if_pos h8)))
        have h8' : (8 : Int) ≤ (d : Int) := by omega
        go_wp2_with fail
        go_ret2
        exact RL.out
      have HC6 := Lib.hid (HC5.out.trans (if_neg h8))
      have h8' : ¬ (8 : Int) ≤ (d : Int) := by omega
      by_cases h6 : 64 < l.length
      · have RL := Lib.hid (DONE.out _ (HC6.out.trans (if_pos h6)))
        have h6' : (64 : Int) < (l.length : Int) := by omega
        go_wp2_with fail
        go_ret2
        exact RL.out
      have HC7 := Lib.hid (HC6.out.trans (if_neg h6))
      have h6' : ¬ (64 : Int) < (l.length : Int) := by omega
      obtain ⟨d1, hd1e⟩ : ∃ d1, d1 = d + 1 := ⟨_, rfl⟩
      have ed : (d : Int) + 1 = (d1 : Int) := by omega
      have hd1 : d1 ≤ 8 := by omega
      have hc7 := HC7.out
      rw [← hd1e] at hc7
      have HC8 := Lib.hid hc7
      have ED := Lib.hid ed
      have R0 := Lib.hid (show rwRel w1 l R d1 (.int .i64 ((p : Int) + 1)) (.int .i64 0) w1 from ⟨0, p + 1, rfl, rfl, Nat.zero_le _, by omega, hc7, Below.refl _ _⟩)
      clear hd1e hc7 ed
      go_wp2_with fail
      go_loopw [2, 8] (fun pv i wr => rwRel w1 l R d1 pv i wr) (fun _ i _ => l.length - (intOf i).toNat)
      case atStart => exact R0.out
      case round =>
        obtain ⟨wq, rfl⟩ : ∃ wq : World, wq = wr := ⟨_, rfl⟩
        obtain ⟨j, q, rfl, rfl, hj, hq, hR, hb⟩ := hrel
        have q0 : (0 : Int) ≤ (j : Int) := by omega
        have r3 : wq.cell? ⟨g, 3, none⟩ = some (.slice ao l.length c) := by rw [cell_of_rowW wq g 3 _ _ _ ((hb.block g (lt_of_rowW HNK.out)).trans HNK.out)]; rfl
        have HB := Lib.hid (HB1.out.trans (hb.mono HB1.out.size))
        have HBQ := Lib.hid hb
        have HRR := Lib.hid hR
        clear hb hR R0 k0 k2 k3
        by_cases hjl : j < l.length
        · have q1 : (j : Int) < (l.length : Int) := by omega
          obtain ⟨x, hx⟩ : ∃ x, l[j]? = some x := ⟨_, List.getElem?_eq_getElem hjl⟩
          obtain ⟨hxv, ad, rfl, had, hxc⟩ := HV.out.elem hx
          have nb : ∀ q, q < N → wq.heap[q]? = w.heap[q]? := fun q hq => HB.out.block q (by omega)
          have hdj : R = if (x.chk d1 q).1 ≠ 0 then x.chk d1 q else chkL (l.drop (j + 1)) d1 (x.chk d1 q).2 := by
            rw [HRR.out, List.drop_eq_getElem_cons hjl]
            rw [List.getElem?_eq_getElem hjl] at hx
            injection hx with hx
            rw [hx, chkL]
          have CX := IH.out x (List.mem_of_getElem? hx) N d1 q wq hd1 hq (hxv.keep nb) (Nat.le_trans hN HB.out.size)
          have hcl := chk_le x d1 q
          obtain ⟨X, hX⟩ : ∃ X, X = x.chk d1 q := ⟨_, rfl⟩
          rw [← hX] at CX hdj hcl
          have KX := Lib.hid (hxc wq nb)
          have HDJ := Lib.hid hdj
          have HCX := Lib.hid CX
          have HCL := Lib.hid hcl
          clear hxv hxc hdj hX CX had hx nb hcl
          obtain ⟨ec, q2⟩ := X
          go_wp2_with (with_reducible show wpList _ _ _ _ _ _; refine wpList_load_allW rfl 26 (.tmp 57) rfl _ rfl x.cells _ KX.out Tryz.underlying26 rfl (Tryz.valSize x) ?_)
          rw [ED.out]
          refine HCX.out.mono ?_
          rintro e w3 ⟨rfl, hb3⟩
          have HB3 := Lib.hid (HB.out.trans (hb3.mono HB.out.size))
          have HBQ3 := Lib.hid (HBQ.out.trans (hb3.mono HBQ.out.size))
          clear hb3
          dsimp only
          by_cases he : ec = 0
          · subst he
            have RL := Lib.hid (show rwRel w1 l R d1 (.int .i64 (q2 : Int)) (.int .i64 ((j + 1 : Nat) : Int)) w3 from ⟨j + 1, q2, rfl, rfl, hjl, HCL.out rfl, HDJ.out, HBQ3.out⟩)
            go_wp2_with fail
            exact ⟨RL.out, by simp [intOf]; omega⟩
          · have hR : R = (ec, q2) := by rw [HDJ.out, if_pos he]
            have RL := Lib.hid (show TwoI R.1 (R.2 : Nat) w (.returned (.tuple #[.int .i64 ec, .int .i64 (q2 : Int)])) w3 by rw [hR]; exact ⟨rfl, HB3.out⟩)
            clear hR
            go_wp2_with fail
            go_ret2
            exact RL.out
        · have q1 : ¬ (j : Int) < (l.length : Int) := by omega
          have hR : R = (0, q) := by rw [HRR.out, List.drop_of_length_le (by omega)]; rfl
          have RL := Lib.hid (show TwoI R.1 (R.2 : Nat) w (.returned (.tuple #[.int .i64 0, .int .i64 (q : Int)])) wq by rw [hR]; exact ⟨rfl, HB.out⟩)
          clear hR
          go_wp2_with fail
          go_ret2
          exact RL.out
    · have e3 : (k != 3) = true := by simpa using h03
      have e0 : (k == 0) = false := by simpa using h00
      have e1 : (k == 1) = false := by simpa using h01
      have e2 : (k == 2) = false := by simpa using h02
      have RL := Lib.hid (DONE.out _ (HC4.out.trans (if_neg h03)))
      go_wp2_with fail
      go_ret2
      exact RL.out
end Go.Proofs.YtnfobnnbeefeeaaGreatDoor.Wi
/- The reference's Bytes. -/
namespace Go.Proofs.YtnfobnnbeefeeaaGreatDoor.Wi
open Go Go.RowKit
set_option linter.unusedVariables false
set_option linter.unusedSimpArgs false
def StrI (s : List UInt8) (w : World) (e : Ending) (w' : World) : Prop := e = .returned (.string (str s)) ∧ Below w.heap.size w w'
def RbAny (x : VT) : Prop := ∀ (N : Nat) (w : World), x.At N w → x.Kin → x.vb.length ≤ 1000000 → N ≤ w.heap.size → Calls Tryz.prog 62 #[.agg x.cells.toArray] w (StrI x.vb w)
def rbvRel (w : World) (hd : List UInt8) (l : List VT) (sv i : Value) (wr : World) : Prop := ∃ j : Nat, i = .int .i64 (j : Int) ∧ j ≤ l.length ∧ sv = .string (str (hd ++ vbL (l.take j))) ∧ Below w.heap.size w wr
set_option maxHeartbeats 8000000 in
set_option maxRecDepth 100000 in
theorem rbytes_any : ∀ v : VT, RbAny v := by
  intro v
  induction v using VT.ind with
  | h k n s ao c l ih =>
    intro N w hv hkin hlen hN
    obtain ⟨hk, hn, hs, hll⟩ := hv.fit
    have hvb : (VT.mk k n s ao c l).vb = UInt8.ofNat k.toNat :: (if k = 1 then enc (zig n) else if k = 2 then enc s.length ++ s else if k = 3 then enc l.length ++ vbL l else []) := by rw [VT.vb]
    rw [hvb] at hlen ⊢
    rw [VT.Kin] at hkin
    obtain ⟨w1, hw1⟩ : ∃ w1, w1 = w.alloc (.cells (VT.mk k n s ao c l).cells.toArray 26) := ⟨_, rfl⟩
    obtain ⟨g, hg⟩ : ∃ g, g = w.heap.size := ⟨_, rfl⟩
    have hb1 : Below w.heap.size w w1 := by rw [hw1]; exact (Below.refl _ _).alloc (Nat.le_refl _) _
    have nk : w1.heap[g]? = some (.cells (VT.mk k n s ao c l).cells.toArray 26 (0, 0)) := by rw [hw1, hg]; exact heap_alloc_new _ _
    have k0 : w1.cell? ⟨g, 0, none⟩ = some (.int .i64 k) := by rw [cell_of_rowW w1 g 0 _ _ _ nk]; rfl
    have hgl := lt_of_rowW nk
    have KG := Lib.hid (show ∀ W, Below w1.heap.size w1 W → W.cell? ⟨g, 0, none⟩ = some (.int .i64 k) ∧ W.cell? ⟨g, 1, none⟩ = some (.int .i64 n) ∧ W.cell? ⟨g, 2, none⟩ = some (.string (str s)) ∧ W.cell? ⟨g, 3, none⟩ = some (.slice ao l.length c) from fun W hF => by
      have q := (hF.block g hgl).trans nk
      exact ⟨by rw [cell_of_rowW W g 0 _ _ _ q]; rfl, by rw [cell_of_rowW W g 1 _ _ _ q]; rfl, by rw [cell_of_rowW W g 2 _ _ _ q]; rfl, by rw [cell_of_rowW W g 3 _ _ _ q]; rfl⟩)
    have CV := Lib.hid (fun (b : UInt8) => cv_one (w1.alloc (.cells #[.int .u8 ((b.toNat : Nat) : Int)] 5)) w1.heap.size b (heap_alloc_new w1 _))
    have BA := Lib.hid (fun o => (Below.refl w1.heap.size w1).alloc (Nat.le_refl _) o)
    have HB1 := Lib.hid hb1
    have HW1 := Lib.hid (show w1 = w.alloc (.cells #[.int .i64 k, .int .i64 n, .string (str s), .slice ao l.length c] 26) from hw1)
    have HG := Lib.hid hg
    have HV := Lib.hid hv
    have IH := Lib.hid ih
    clear hb1 nk hw1 hg hv ih hvb hgl
    show Calls Tryz.prog 62 #[.agg #[.int .i64 k, .int .i64 n, .string (str s), .slice ao l.length c]] w _
    rcases hkin with ⟨rfl | rfl | rfl | rfl, hkl⟩
    · have cv : (convert 36 9 (.slice (some ⟨w1.heap.size, 0, none⟩) 1 1)).run Tryz.prog (w1.alloc (.cells #[.int .u8 0] 5)) = .ok (.string (str [0])) (w1.alloc (.cells #[.int .u8 0] 5)) := CV.out 0
      have hT := wstr_size [0]
      obtain ⟨T, hTT⟩ : ∃ T, T = str [0] := ⟨_, rfl⟩
      rw [← hTT] at cv hT
      have hT1 : T.size = 1 := hT
      obtain ⟨w2, hw2⟩ : ∃ w2, w2 = w1.alloc (.cells #[.int .u8 0] 5) := ⟨_, rfl⟩
      have hb12 : Below w1.heap.size w1 w2 := by rw [hw2]; exact BA.out _
      obtain ⟨c20, c21, c22, c23⟩ := KG.out w2 hb12
      have HB2 := Lib.hid (HB1.out.trans (hb12.mono HB1.out.size))
      have HB12 := Lib.hid hb12
      have HW2 := Lib.hid hw2
      have HT := Lib.hid hTT
      clear hw2 hTT hb12 hT
      go_enter Tryz.func62, Tryz.ntmps62
      go_upto_region 1 with fail
      rw [← HW1.out, ← HG.out]
      go_upto_region 2 with fail
      rw [← HW2.out]
      clear cv k0
      go_wp2_with fail
      go_ret
      exact ⟨by rw [HT.out]; rfl, HB2.out⟩
    · have cv : (convert 36 9 (.slice (some ⟨w1.heap.size, 0, none⟩) 1 1)).run Tryz.prog (w1.alloc (.cells #[.int .u8 1] 5)) = .ok (.string (str [1])) (w1.alloc (.cells #[.int .u8 1] 5)) := CV.out 1
      have hT := wstr_size [1]
      obtain ⟨T, hTT⟩ : ∃ T, T = str [1] := ⟨_, rfl⟩
      rw [← hTT] at cv hT
      have hT1 : T.size = 1 := hT
      obtain ⟨w2, hw2⟩ : ∃ w2, w2 = w1.alloc (.cells #[.int .u8 1] 5) := ⟨_, rfl⟩
      have hb12 : Below w1.heap.size w1 w2 := by rw [hw2]; exact BA.out _
      obtain ⟨c20, c21, c22, c23⟩ := KG.out w2 hb12
      have HB2 := Lib.hid (HB1.out.trans (hb12.mono HB1.out.size))
      have HB12 := Lib.hid hb12
      have HW2 := Lib.hid hw2
      have HT := Lib.hid hTT
      clear hw2 hTT hb12 hT
      go_enter Tryz.func62, Tryz.ntmps62
      go_upto_region 1 with fail
      rw [← HW1.out, ← HG.out]
      go_upto_region 2 with fail
      rw [← HW2.out]
      clear cv k0
      have RI := Lib.hid (refInt_any n hn.1 hn.2 w2)
      have hes : (str (enc (zig n))).size ≤ 10 := by rw [wstr_size]; exact enc_length _
      obtain ⟨U, hU⟩ : ∃ U, U = str (enc (zig n)) := ⟨_, rfl⟩
      rw [← hU] at RI hes
      have HU := Lib.hid hU
      have hmx : ¬ maxLen < T.size + U.size := by unfold maxLen; omega
      clear hU
      go_wp2_with fail
      refine RI.out.mono ?_
      rintro e w3 ⟨rfl, hb3⟩
      have HB3 := Lib.hid (HB2.out.trans (hb3.mono HB2.out.size))
      clear hb3
      go_wp2_with fail
      go_ret
      refine ⟨?_, HB3.out⟩
      rw [HT.out, HU.out, wstr_app]
      rfl
    · have cv : (convert 36 9 (.slice (some ⟨w1.heap.size, 0, none⟩) 1 1)).run Tryz.prog (w1.alloc (.cells #[.int .u8 2] 5)) = .ok (.string (str [2])) (w1.alloc (.cells #[.int .u8 2] 5)) := CV.out 2
      have hT := wstr_size [2]
      obtain ⟨T, hTT⟩ : ∃ T, T = str [2] := ⟨_, rfl⟩
      rw [← hTT] at cv hT
      have hT1 : T.size = 1 := hT
      obtain ⟨w2, hw2⟩ : ∃ w2, w2 = w1.alloc (.cells #[.int .u8 2] 5) := ⟨_, rfl⟩
      have hb12 : Below w1.heap.size w1 w2 := by rw [hw2]; exact BA.out _
      obtain ⟨c20, c21, c22, c23⟩ := KG.out w2 hb12
      have HB2 := Lib.hid (HB1.out.trans (hb12.mono HB1.out.size))
      have HB12 := Lib.hid hb12
      have HW2 := Lib.hid hw2
      have HT := Lib.hid hTT
      clear hw2 hTT hb12 hT
      go_enter Tryz.func62, Tryz.ntmps62
      go_upto_region 1 with fail
      rw [← HW1.out, ← HG.out]
      go_upto_region 2 with fail
      rw [← HW2.out]
      clear cv k0
      have hsl : s.length ≤ 1000000 := by simp at hlen; omega
      have RI := Lib.hid (refText_any (str s) (by rw [wstr_size]; exact hsl) w2)
      rw [wstr_size, wstr_app] at RI
      have hes : (str (enc s.length ++ s)).size ≤ 1000010 := by rw [wstr_size, List.length_append]; have := enc_length s.length; omega
      obtain ⟨U, hU⟩ : ∃ U, U = str (enc s.length ++ s) := ⟨_, rfl⟩
      rw [← hU] at RI hes
      have HU := Lib.hid hU
      have hmx : ¬ maxLen < T.size + U.size := by unfold maxLen; omega
      clear hU
      go_wp2_with fail
      refine RI.out.mono ?_
      rintro e w3 ⟨rfl, hb3⟩
      have HB3 := Lib.hid (HB2.out.trans (hb3.mono HB2.out.size))
      clear hb3
      go_wp2_with fail
      go_ret
      refine ⟨?_, HB3.out⟩
      rw [HT.out, HU.out, wstr_app]
      rfl
    · have cv : (convert 36 9 (.slice (some ⟨w1.heap.size, 0, none⟩) 1 1)).run Tryz.prog (w1.alloc (.cells #[.int .u8 3] 5)) = .ok (.string (str [3])) (w1.alloc (.cells #[.int .u8 3] 5)) := CV.out 3
      have hT := wstr_size [3]
      obtain ⟨T, hTT⟩ : ∃ T, T = str [3] := ⟨_, rfl⟩
      rw [← hTT] at cv hT
      have hT1 : T.size = 1 := hT
      obtain ⟨w2, hw2⟩ : ∃ w2, w2 = w1.alloc (.cells #[.int .u8 3] 5) := ⟨_, rfl⟩
      have hb12 : Below w1.heap.size w1 w2 := by rw [hw2]; exact BA.out _
      obtain ⟨c20, c21, c22, c23⟩ := KG.out w2 hb12
      have HB2 := Lib.hid (HB1.out.trans (hb12.mono HB1.out.size))
      have HB12 := Lib.hid hb12
      have HW2 := Lib.hid hw2
      have HT := Lib.hid hTT
      clear hw2 hTT hb12 hT
      go_enter Tryz.func62, Tryz.ntmps62
      go_upto_region 1 with fail
      rw [← HW1.out, ← HG.out]
      go_upto_region 2 with fail
      rw [← HW2.out]
      clear cv k0
      have hl3 : (enc l.length).length + (vbL l).length ≤ 1000000 := by simp at hlen; omega
      have KL := Lib.hid (kinL_mem (hkl rfl))
      have RI := Lib.hid (refNum_any l.length (by omega) w2)
      have hes : (str (enc l.length)).size ≤ 10 := by rw [wstr_size]; exact enc_length _
      obtain ⟨U, hU⟩ : ∃ U, U = str (enc l.length) := ⟨_, rfl⟩
      rw [← hU] at RI hes
      have HU := Lib.hid hU
      have hmx : ¬ maxLen < T.size + U.size := by unfold maxLen; omega
      have HTU := Lib.hid (show T ++ U = str (3 :: enc l.length ++ vbL (l.take 0)) by rw [HT.out, HU.out, wstr_app, List.take_zero, vbL, List.append_nil]; rfl)
      clear hU hlen hkl
      go_wp2_with fail
      refine RI.out.mono ?_
      rintro e w3 ⟨rfl, hb3⟩
      have hb13 := HB12.out.trans (hb3.mono HB12.out.size)
      have c33 := (KG.out w3 hb13).2.2.2
      have HB13 := Lib.hid hb13
      clear hb3 hb13 c20 c21 c22 c23
      go_wp2_with fail
      obtain ⟨V0, hV0⟩ : ∃ V, V = T ++ U := ⟨_, rfl⟩
      rw [← hV0]
      have HV0 := Lib.hid (hV0.trans HTU.out)
      clear hV0
      go_loopw [3, 4] (fun sv i wr => rbvRel w1 (3 :: enc l.length) l sv i wr) (fun _ i _ => l.length - (intOf i).toNat)
      case atStart => exact ⟨0, rfl, Nat.zero_le _, by rw [HV0.out], HB13.out⟩
      case round =>
        obtain ⟨wq, rfl⟩ : ∃ wq : World, wq = wr := ⟨_, rfl⟩
        obtain ⟨j, rfl, hj, rfl, hb⟩ := hrel
        have q0 : (0 : Int) ≤ (j : Int) := by omega
        have cq := (KG.out wq hb).2.2.2
        have HB := Lib.hid (HB1.out.trans (hb.mono HB1.out.size))
        have HBQ := Lib.hid hb
        clear hb c33
        by_cases hjl : j < l.length
        · have q1 : (j : Int) < (l.length : Int) := by omega
          obtain ⟨x, hx⟩ : ∃ x, l[j]? = some x := ⟨_, List.getElem?_eq_getElem hjl⟩
          obtain ⟨hxv, ad, rfl, had, hxc⟩ := HV.out.elem hx
          have nb : ∀ q, q < N → wq.heap[q]? = w.heap[q]? := fun q hq => HB.out.block q (by omega)
          have htk := vbL_take hx
          have hle1 := vbL_len l (j + 1)
          have hle0 := vbL_len l j
          rw [htk, List.length_append] at hle1
          have CX := IH.out x (List.mem_of_getElem? hx) N wq (hxv.keep nb) (KL.out x (List.mem_of_getElem? hx)) (by omega) (Nat.le_trans hN HB.out.size)
          have hs1 : (str (3 :: enc l.length ++ vbL (l.take j))).size ≤ 1000001 := by rw [wstr_size]; simp only [List.length_append, List.length_cons]; omega
          have hs2 : (str x.vb).size ≤ 1000000 := by rw [wstr_size]; omega
          have hjn : str (3 :: enc l.length ++ vbL (l.take j)) ++ str x.vb = str (3 :: enc l.length ++ vbL (l.take (j + 1))) := by rw [wstr_app, htk, List.append_assoc]
          obtain ⟨A, hA⟩ : ∃ A, A = str (3 :: enc l.length ++ vbL (l.take j)) := ⟨_, rfl⟩
          obtain ⟨B, hB⟩ : ∃ B, B = str x.vb := ⟨_, rfl⟩
          have HCX := Lib.hid (show Calls Tryz.prog 62 #[.agg x.cells.toArray] wq (fun e w' => e = .returned (.string B) ∧ Below wq.heap.size wq w') by rw [hB]; exact CX)
          rw [← hA, ← hB] at hjn
          rw [← hA] at hs1
          rw [← hB] at hs2
          rw [← hA]
          have hmx2 : ¬ maxLen < A.size + B.size := by unfold maxLen; omega
          have KX := Lib.hid (hxc wq nb)
          have HJN := Lib.hid hjn
          clear hxv hxc CX hA hB had hx nb htk hle1 hle0 hjn
          go_wp2_with (with_reducible show wpList _ _ _ _ _ _; refine wpList_load_allW rfl 26 (.tmp 47) rfl _ rfl x.cells _ KX.out Tryz.underlying26 rfl (Tryz.valSize x) ?_)
          refine HCX.out.mono ?_
          rintro e w4 ⟨rfl, hb4⟩
          have RL := Lib.hid (show rbvRel w1 (3 :: enc l.length) l (.string (A ++ B)) (.int .i64 ((j + 1 : Nat) : Int)) w4 from ⟨j + 1, rfl, hjl, by rw [HJN.out], HBQ.out.trans (hb4.mono HBQ.out.size)⟩)
          clear hb4
          go_wp2_with fail
          go_roundw
          case rel => exact RL.out
          case measure => simp [intOf]; omega
        · have q1 : ¬ (j : Int) < (l.length : Int) := by omega
          have RL := Lib.hid (show StrI (3 :: (enc l.length ++ vbL l)) w (.returned (.string (str (3 :: enc l.length ++ vbL (l.take j))))) wq by
            rw [List.take_of_length_le (by omega)]
            exact ⟨rfl, HB.out⟩)
          obtain ⟨A, hA⟩ : ∃ A, A = str (3 :: enc l.length ++ vbL (l.take j)) := ⟨_, rfl⟩
          rw [← hA] at RL ⊢
          clear hA
          go_wp2_with fail
          go_ret
          exact RL.out
end Go.Proofs.YtnfobnnbeefeeaaGreatDoor.Wi
/- The reference's Check; the statements' good, small, fits. -/
namespace Go.Proofs.YtnfobnnbeefeeaaGreatDoor.Wi
open Go Go.RowKit
set_option linter.unusedVariables false
set_option linter.unusedSimpArgs false
set_option maxHeartbeats 4000000 in
theorem rcheck_any (v : VT) (N : Nat) (w : World) (hv : v.At N w) (hN : N ≤ w.heap.size) : Calls Tryz.prog 56 #[.agg v.cells.toArray, .int .i64 0, .int .i64 0] w (TwoI v.vE ((v.chk 0 0).2 : Nat) w) := by
  obtain ⟨R, hR⟩ : ∃ R, R = v.vE := ⟨_, rfl⟩
  rw [← hR]
  unfold VT.vE at hR
  have RW := fun W h1 h2 => rwalk_any v N 0 0 W (by decide) (by decide) h1 h2
  rw [show ((0 : Nat) : Int) = 0 from rfl] at RW
  have hok := chk_ok v 0 0
  have hle := chk_le v 0 0
  obtain ⟨C, hC⟩ : ∃ C, C = v.chk 0 0 := ⟨_, rfl⟩
  rw [← hC] at hR RW hok hle ⊢
  clear hC
  obtain ⟨ec, q⟩ := C
  dsimp only at hR RW hok hle ⊢
  obtain ⟨w1, hw1⟩ : ∃ bx, bx = w.alloc (.cells v.cells.toArray 26) := ⟨_, rfl⟩
  obtain ⟨g, hg⟩ : ∃ bx, bx = w.heap.size := ⟨_, rfl⟩
  have bw1 : Below w.heap.size w w1 := by rw [hw1]; exact (Below.refl _ _).alloc (Nat.le_refl _) _
  have nw1 : w1.heap[g]? = some (.cells v.cells.toArray 26 (0, 0)) := by rw [hw1, hg]; exact heap_alloc_new _ _
  have Kw1 := Lib.hid (rowK nw1)
  have Hw1 := Lib.hid hw1
  have Hg := Lib.hid hg
  have Bw1 := Lib.hid bw1
  have Nw1 := Lib.hid nw1
  clear hw1 hg bw1 nw1
  have HRW := Lib.hid (RW w1 (hv.below (Bw1.out.mono hN)) (Nat.le_trans hN Bw1.out.size))
  have HR := Lib.hid hR
  have HOK := Lib.hid hok
  have HLE := Lib.hid hle
  have HV := Lib.hid hv
  clear RW hR hok hle hv
  go_enter Tryz.func56, Tryz.ntmps56
  go_upto_region 1 with fail
  rw [← Hw1.out, ← Hg.out]
  go_wp2_with (with_reducible show wpList _ _ _ _ _ _; refine wpList_load_allW rfl 26 (.tmp 3) rfl ⟨g,0,none⟩ rfl v.cells _ Kw1.out Tryz.underlying26 rfl (Tryz.valSize v) ?_)
  refine HRW.out.mono ?_
  rintro e w2 ⟨rfl, hb2⟩
  have HB2 := Lib.hid (Bw1.out.trans (hb2.mono Bw1.out.size))
  have K2 := Lib.hid (rowK ((hb2.block g (lt_of_rowW Nw1.out)).trans Nw1.out))
  clear hb2
  by_cases he : ec = 0
  · subst he
    obtain ⟨hk, hb⟩ := HOK.out rfl
    have hq := HLE.out rfl
    have RB := Lib.hid (rbytes_any v N w2 (HV.out.below (HB2.out.mono hN)) hk (by omega) (Nat.le_trans hN HB2.out.size))
    have hr := HR.out
    rw [if_neg (by decide)] at hr
    have HR2 := Lib.hid hr
    have hs := str_sizeX v.vb
    obtain ⟨S, hS⟩ : ∃ S, S = str v.vb := ⟨_, rfl⟩
    have RB2 := Lib.hid (show Calls Tryz.prog 62 #[.agg v.cells.toArray] w2 (fun e w' => e = .returned (.string S) ∧ Below w2.heap.size w2 w') by rw [hS]; exact RB.out)
    rw [← hS] at hs
    clear RB hS hr hk hb
    -- the cells of the value, for the guarded load
    obtain ⟨vk, vn, vs, va, vc, vl⟩ := v
    have c0 : w2.cell? ⟨g, 0, none⟩ = some (.int .i64 vk) := by have h := K2.out 0 _ rfl; rwa [Addr.add_mid] at h
    have c1 : w2.cell? ⟨g, 1, none⟩ = some (.int .i64 vn) := by have h := K2.out 1 _ rfl; rwa [Addr.add_mid] at h
    have c2 : w2.cell? ⟨g, 2, none⟩ = some (.string (str vs)) := by have h := K2.out 2 _ rfl; rwa [Addr.add_mid] at h
    have c3 : w2.cell? ⟨g, 3, none⟩ = some (.slice va vl.length vc) := by have h := K2.out 3 _ rfl; rwa [Addr.add_mid] at h
    have RB3 := Lib.hid (show Calls Tryz.prog 62 #[.agg #[.int .i64 vk, .int .i64 vn, .string (str vs), .slice va vl.length vc]] w2 (fun e w' => e = .returned (.string S) ∧ Below w2.heap.size w2 w') from RB2.out)
    obtain ⟨L, hL⟩ : ∃ L, L = (VT.mk vk vn vs va vc vl).vb.length := ⟨_, rfl⟩
    rw [← hL] at hs HR2
    clear hL K2
    go_wp2_with fail
    refine RB3.out.mono ?_
    rintro e w3 ⟨rfl, hb3⟩
    have HB3 := Lib.hid (HB2.out.trans (hb3.mono HB2.out.size))
    clear hb3 c0 c1 c2 c3
    by_cases h5 : 512 < L
    · have h5' : (512 : Int) < (S.size : Int) := by omega
      have hr := HR2.out.trans (if_pos h5)
      subst hr
      go_wp2_with fail
      go_ret2
      exact ⟨rfl, HB3.out⟩
    · have h5' : ¬ (512 : Int) < (S.size : Int) := by omega
      have hr := HR2.out.trans (if_neg h5)
      subst hr
      go_wp2_with fail
      go_ret2
      exact ⟨rfl, HB3.out⟩
  · have hr := HR.out.trans (if_pos he)
    subst hr
    have he2 : (R == 0) = false := by simpa using he
    clear K2
    go_wp2_with fail
    go_ret2
    exact ⟨rfl, HB2.out⟩
def LeftAt (w : World) (q : Nat) (n : Int) : Prop := w.heap[q]? = some (.cells #[.int .i64 n] 3 (0, 0))
def SmPost (w : World) (q : Nat) (e : Ending) (w' : World) : Prop := ∃ (b : Bool) (n : Int), e = .returned (.bool b) ∧ -1 ≤ n ∧ n ≤ 400 ∧ (b = true → 0 ≤ n) ∧ LeftAt w' q n ∧ Fr w w' q none
def smRel (w : World) (q : Nat) (len : Nat) (i : Value) (wr : World) : Prop := ∃ (j : Nat) (n : Int), i = .int .i64 (j : Int) ∧ j ≤ len ∧ 0 ≤ n ∧ n ≤ 400 ∧ LeftAt wr q n ∧ Fr w wr q none
end Go.Proofs.YtnfobnnbeefeeaaGreatDoor.Wi
/- The statements' fits; True. -/
namespace Go.Proofs.YtnfobnnbeefeeaaGreatDoor.Wi
open Go Go.RowKit
set_option linter.unusedVariables false
set_option linter.unusedSimpArgs false
def AnB (e : Ending) : Prop := ∃ b, e = .returned (.bool b)
def ftRel (w2 : World) (q : Nat) (len : Nat) (i : Value) (wr : World) : Prop := ∃ (j : Nat) (n : Int), i = .int .i64 (j : Int) ∧ j ≤ len ∧ 0 ≤ n ∧ n ≤ 400 ∧ LeftAt wr q n ∧ Fr w2 wr q none
def VT.tru : VT → Bool
  | .mk k n s ao c l => if k = 0 then false else if k = 1 then n != 0 else if k = 2 then !decide (s = []) else if k = 3 then decide (0 < l.length) else true
end Go.Proofs.YtnfobnnbeefeeaaGreatDoor.Wi
/- Decode. -/
namespace Go.Proofs.YtnfobnnbeefeeaaGreatDoor.Wi
open Go Go.RowKit
set_option linter.unusedVariables false
set_option linter.unusedSimpArgs false
/-- What Decode answers: the value, the error. -/
def dcV (xs : List UInt8) : VT × Int :=
  let X := rdV xs 0 0
  let e := rend xs X.2.1 X.2.2
  (if e = 0 then X.1 else zV, e)
def DcdPost (w : World) (X : VT × Int) (e : Ending) (w' : World) : Prop :=
  ∃ y : VT, e = .returned (.tuple #[.agg y.cells.toArray, .int .i64 X.2]) ∧ y.nz = X.1 ∧ y.At w'.heap.size w' ∧ y.In (w.heap.size ≤ ·) ∧ Below w.heap.size w w'
theorem dcd_end {w wz : World} {g2 B : Nat} {y : VT} {X : VT × Int} (hX : X.1 = y.nz) (hb : Below w.heap.size w wz) (hy : y.At wz.heap.size wz) (hin : y.In (B ≤ ·)) (hB : g2 < B) (hwB : w.heap.size ≤ B) (hg2 : w.heap.size ≤ g2) :
    DcdPost w X (.returned (.tuple #[.agg y.cells.toArray, .int .i64 X.2])) (wz.setRow g2 y.cells.toArray) := by
  have st : ∀ q, q ≠ g2 → (wz.setRow g2 y.cells.toArray).heap[q]? = wz.heap[q]? := fun q hq => setRow_other wz g2 q _ hq
  refine ⟨y, rfl, hX.symm, ?_, hin.imp fun q hq => Nat.le_trans hwB hq, ⟨hb.os, hb.tape, hb.output, by simpa using hb.size, fun q hq => (st q (by omega)).trans (hb.block q hq)⟩⟩
  exact (hy.keepT hin (fun q _ h2 => st q (by omega))).mono (by simp)
end Go.Proofs.YtnfobnnbeefeeaaGreatDoor.Wi
