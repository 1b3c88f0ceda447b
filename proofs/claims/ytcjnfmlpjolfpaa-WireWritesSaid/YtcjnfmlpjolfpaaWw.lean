/- The law WireWrites: its walk. -/
import Derived.Test.YtcjnfmlpjolfpaaWv
import Derived.Deep.CutBlock
import Derived.Deep.DeepCutAuto
import Derived.Deep.RegionHeld3
namespace Go.Proofs.Ytcjnfmlpjolfpaa
open Go Go.RowKit
set_option linter.unusedVariables false
set_option linter.unusedSimpArgs false
theorem conv_i64 (n : Int) (W : World) : (convert 27 2 (.int .u64 n)).run Try.prog W = .ok (.int .i64 (i64of n)) W := by
  have h1 := Try.underlying27
  have h2 := Try.underlying2
  simp [convert, run_underlying h1, run_underlying h2, i64of, Conv.intToInt, IntKind.wrap_i64, wrap64]
theorem conv_u32 (n : Int) (h : 0 ≤ n) (W : World) : (convert 27 38 (.int .u64 n)).run Try.prog W = .ok (.int .u32 ((n.toNat % 4294967296 : Nat) : Int)) W := by
  have e : ((n.toNat % 4294967296 : Nat) : Int) = IntKind.u32.wrap n := by rw [IntKind.wrap_u32]; omega
  rw [e]
  have h1 := Try.underlying27
  have h2 := Try.underlying38
  simp [convert, run_underlying h1, run_underlying h2, Conv.intToInt]
theorem rfN_leTo (n : Nat) (hn : n < 4294967296) : rfN (leTo n 4) 4 = n := by
  simp [leTo, rfN]
  omega
def WzRel (w0 : World) (b2 : Nat) (r2 : Option Nat) (XS : List UInt8) (L : List PartD) (u : Value) (wr : World) : Prop :=
  ∃ k : Nat, u = .int .i64 (k : Int) ∧ k ≤ L.length ∧ Rd wr b2 r2 XS (encAll (L.take k)).length 0 ∧ Below w0.heap.size w0 wr
set_option maxRecDepth 100000 in
set_option maxHeartbeats 8000000 in
theorem wwrites_any (ao : Option Addr) (c : Nat) (L : List PartD) (w : World) (hP : Prts w (.slice ao L.length c) L) (hlen : L.length ≤ 9223372036854775807) :
    Calls Try.prog 3 #[.slice ao L.length c] w fun e w' => e = .returned (.bool true) ∧ Below w.heap.size w w' := by
  have HP := Lib.hid hP
  clear hP
  by_cases h40 : 40 < L.length
  · have hi : (40 : Int) < (L.length : Int) := by omega
    go_enter Try.func3, Try.ntmps3
    go_wp2_with fail
    refine (writes_any w).mono ?_
    rintro e w0 ⟨rfl, hB0⟩
    have HB0 := Lib.hid hB0
    clear hB0
    go_wp2_with fail
    go_ret
    exact ⟨rfl, HB0.out⟩
  have hi : ¬ (40 : Int) < (L.length : Int) := by omega
  go_enter Try.func3, Try.ntmps3
  go_wp2_with fail
  refine (writes_any w).mono ?_
  rintro e w0 ⟨rfl, hB0⟩
  have HB0 := Lib.hid hB0
  have HP0 := Lib.hid (HP.out.below hB0 (Nat.le_refl _))
  obtain ⟨b, hb⟩ : ∃ b, b = w0.heap.size := ⟨_, rfl⟩
  obtain ⟨w1, hw1⟩ : ∃ w1, w1 = w0.alloc (.cells #[.slice none 0 0] 26) := ⟨_, rfl⟩
  have R0 := Lib.hid (show WwRel w0 b L (.string ⟨#[]⟩) (.int .i64 0) w1 from ⟨0, rfl, Nat.zero_le _, ⟨none, rfl, by rw [hw1, hb]; exact Wr.new w0, (fun g e => by cases e), by rw [hw1]; exact (Below.refl _ _).alloc (Nat.le_refl _) _⟩, Nat.le_refl _, fun j hj => by omega⟩)
  have HB := Lib.hid (show w0.heap.size ≤ b by omega)
  have HBE := Lib.hid hb
  have HW1 := Lib.hid hw1
  clear hB0 hw1 hb
  go_upto_region 6 with fail
  rw [← HW1.out, ← HBE.out]
  go_wp2_with fail
  go_loopw [4, 19] (fun s u wr => WwRel w0 b L s u wr) (fun _ u _ => L.length - (intOf u).toNat)
  case atStart => exact R0.out
  case round =>
    obtain ⟨wq, rfl⟩ : ∃ wq : World, wq = wr := ⟨_, rfl⟩
    obtain ⟨k, rfl, hk, ⟨r, rfl, hW, hr, hbw⟩, hxl, h500⟩ := hrel
    have HXL0 := Lib.hid hxl
    have H500 := Lib.hid h500
    have HBQ := Lib.hid hbw
    have HWQ := Lib.hid hW
    have HRR := Lib.hid hr
    clear hxl h500 hbw hW hr R0
    by_cases hkl : k < L.length
    · have hkk : (k : Int) < (L.length : Int) := by omega
      obtain ⟨a, rfl, hcell, hg⟩ := HP0.out.at hkl
      obtain ⟨p, hp⟩ : ∃ p, p = L.getD k default := ⟨_, rfl⟩
      rw [← hp] at hcell hg
      have hsucc := encAll_succ hkl
      rw [← hp] at hsucc
      obtain ⟨X, hX⟩ : ∃ X, X = encAll (L.take k) := ⟨_, rfl⟩
      rw [← hX] at HXL0 HWQ hsucc ⊢
      obtain ⟨SX, hSX⟩ : ∃ SX, SX = str X := ⟨_, rfl⟩
      rw [← hSX]
      have hSs : SX.size ≤ 520 * k := by rw [hSX, wstr_size]; exact HXL0.out
      have HC := Lib.hid (show ∀ i u, p.cells[i]? = some u → wq.cell? ((a.add (k * 36)).add i) = some u from fun i u hu => by
        have h := hcell i u hu
        rw [HBQ.out.cell (World.block_lt_of_cell? w0 _ h)]
        exact h)
      have HZ := Lib.hid (Try.partSize hg)
      have HZ' := Lib.hid (show (Try.prog.info? 31).map (·.size) = some p.cells.toArray.size by rw [List.size_toArray]; exact Try.partSize hg)
      have HO1 := Lib.hid p.cells_one
      obtain ⟨w6, hw6⟩ : ∃ w6, w6 = wq.alloc (.cells p.cells.toArray 31) := ⟨_, rfl⟩
      obtain ⟨k6, hk6⟩ : ∃ k6, k6 = wq.heap.size := ⟨_, rfl⟩
      have hb6 : Below wq.heap.size wq w6 := by rw [hw6]; exact (Below.refl _ _).alloc (Nat.le_refl _) _
      have HK6 := Lib.hid (show w6.heap[k6]? = some (.cells p.cells.toArray 31 (0, 0)) by rw [hw6, hk6]; exact heap_alloc_new _ _)
      have HW := Lib.hid (HWQ.out.later hb6)
      have HBW := Lib.hid (HBQ.out.trans (hb6.mono HBQ.out.size))
      have HSZ := Lib.hid (show w0.heap.size ≤ w6.heap.size from HBW.out.size)
      have HNE := Lib.hid (show k6 ≠ b ∧ r ≠ some k6 from ⟨by have := HWQ.out.lt; omega, fun e => by have := HWQ.out.rlt k6 e; omega⟩)
      have HG := Lib.hid (hg.below HBW.out (Nat.le_refl _))
      have HGD := Lib.hid hg
      have HXL := Lib.hid (show X.length + 600 ≤ 140737488355328 by have := HXL0.out; omega)
      have e0 : w6.cell? ⟨k6, 0, none⟩ = some (.int .i64 p.kind) := by rw [cell_of_rowW w6 k6 0 _ _ _ HK6.out]; rfl
      have e3 : w6.cell? ⟨k6, 3, none⟩ = some (.slice p.ao p.data.length p.cap) := by rw [cell_of_rowW w6 k6 3 _ _ _ HK6.out]; rfl
      have HSX := Lib.hid hSX
      have HSC := Lib.hid hsucc
      have HPP := Lib.hid hp
      have HW6 := Lib.hid hw6
      have HKE := Lib.hid hk6
      have HSZX := Lib.hid (show 36 = p.cells.toArray.size by have := PartD.cells_length hg; simp [this])
      have hkm : k < 40 := by omega
      clear hcell hp hsucc hX hSX hg hw6 hk6 hb6 hk
      go_upto_block 1 with fail
      go_cut [4] (fun s wx => W1c w0 b (X ++ encP p) s wx ∧ p.data.length ≤ 500)
      case first =>
        by_cases hd : 500 < p.data.length
        · have hdi : (500 : Int) < (p.data.length : Int) := by omega
          go_wp2_with (first
            | (with_reducible show wpList _ _ _ _ _ _; refine wpList_load_allW rfl 31 (.tmp 21) rfl (a.add (k * 36)) rfl p.cells _ HC.out Try.underlying31 rfl HZ.out ?_)
            | (with_reducible show wpList _ _ _ _ _ _; refine wpList_store_newW rfl 31 (.tmp 6) (.tmp 22) rfl 31 _ p.cells.toArray rfl rfl HZ'.out (by with_unfolding_all exact HSZX.out) HO1.out ?_; rw [← HW6.out, ← HKE.out]))
          go_ret
          exact ⟨rfl, HB0.out.trans (HBW.out.mono HB0.out.size)⟩
        have hdi : ¬ (500 : Int) < (p.data.length : Int) := by omega
        have HD5 := Lib.hid (show p.data.length ≤ 500 by omega)
        have hd5 : p.data.length ≤ 500 := HD5.out
        obtain ⟨kd, hkd⟩ : ∃ kd, kd = p.kind := ⟨_, rfl⟩
        rw [← hkd] at e0
        have HKD := Lib.hid hkd
        clear hkd
        go_upto_block 2 with (first
          | (with_reducible show wpList _ _ _ _ _ _; refine wpList_load_allW rfl 31 (.tmp 21) rfl (a.add (k * 36)) rfl p.cells _ HC.out Try.underlying31 rfl HZ.out ?_)
          | (with_reducible show wpList _ _ _ _ _ _; refine wpList_store_newW rfl 31 (.tmp 6) (.tmp 22) rfl 31 _ p.cells.toArray rfl rfl HZ'.out (by with_unfolding_all exact HSZX.out) HO1.out ?_; rw [← HW6.out, ← HKE.out]))
        clear e3 hd hdi
        obtain rfl | rfl | rfl | rfl | rfl | rfl | ⟨n0, n1, n2, n3, n4, n5⟩ : kd = 0 ∨ kd = 1 ∨ kd = 2 ∨ kd = 3 ∨ kd = 4 ∨ kd = 5 ∨ (¬ kd = 0 ∧ ¬ kd = 1 ∧ ¬ kd = 2 ∧ ¬ kd = 3 ∧ ¬ kd = 4 ∧ ¬ kd = 5) := by omega
        · have HEP := Lib.hid (show encP p = p.data by unfold encP; rw [if_pos HKD.out.symm])
          obtain ⟨ao', c', e5, hno, hs⟩ := (HG.out.data)
          injection e5 with e1 e2 e3
          subst e1
          have BY := Lib.hid (byte_any HW.out p.ao p.data.length p.cap p.data rfl (fun e => by rw [hno e]; rfl) hs (by have := HXL.out; omega))
          have c3 : w6.cell? ⟨k6, 3, none⟩ = some (.slice p.ao p.data.length p.cap) := by rw [cell_of_rowW w6 k6 3 _ _ _ HK6.out]; rfl
          clear hno hs e2 e3
          go_wp2_with fail
          refine BY.out.mono ?_
          rintro e w7 ⟨rfl, hwr⟩
          have hwr2 := hwr
          obtain ⟨_, _, hF7, _⟩ := hwr2
          obtain ⟨r7, hW7, hB7, _, hr7⟩ := hwr.step HBW.out HSZ.out HB.out HRR.out
          have hk7 := fr_row hF7 HK6.out HNE.out.1 HNE.out.2
          have HW7 := Lib.hid hW7
          have HB7 := Lib.hid hB7
          have HR7 := Lib.hid hr7
          have HK7 := Lib.hid hk7
          clear hwr hF7 hW7 hB7 hr7 hk7
          have d3 : w7.cell? ⟨k6, 3, none⟩ = some (.slice p.ao p.data.length p.cap) := by rw [cell_of_rowW w7 k6 3 _ _ _ HK7.out]; rfl
          obtain ⟨ao', c', e5, hno, hs⟩ := HGD.out.data.below' HB7.out (Nat.le_refl _)
          injection e5 with e1 e2 e3
          subst e1
          have hcv := run_convert_sl (n := p.data.length) (c := p.cap) rfl hno hs
          obtain ⟨D, hD⟩ : ∃ D, D = str p.data := ⟨_, rfl⟩
          rw [← hD] at hcv
          have hDs : D.size ≤ 500 := by rw [hD, wstr_size]; exact HD5.out
          have REL := Lib.hid (show W1c w0 b (X ++ p.data) (.string (SX ++ D)) w7 from ⟨r7, by rw [HSX.out, hD, wstr_app], HW7.out, HR7.out, HB7.out⟩)
          clear hno hs e2 e3 hD c3 BY
          go_wp2_with fail
          go_meet
          rw [HEP.out]
          exact ⟨REL.out, HD5.out⟩
        · have HEP := Lib.hid (show encP p = enc p.n.toNat by unfold encP; rw [if_neg (by rw [← HKD.out]; decide), if_pos HKD.out.symm])
          obtain ⟨n, hn⟩ : ∃ n : Nat, p.n = (n : Int) := ⟨p.n.toNat, by have := HG.out.n; omega⟩
          have hn64 : n < 18446744073709551616 := by have := HG.out.n; omega
          have hnn : p.n.toNat = n := by omega
          rw [hnn] at HEP
          have NO := Lib.hid (num_one HW.out w6.heap.size rfl (n : Int) n rfl hn64 (by have := HXL.out; omega))
          have c1 : w6.cell? ⟨k6, 1, none⟩ = some (.int .u64 (n : Int)) := by rw [cell_of_rowW w6 k6 1 _ _ _ HK6.out, ← hn]; rfl
          have HK6a := Lib.hid (show (w6.alloc (.cells #[.int .u64 (n : Int)] 27)).heap[k6]? = some (.cells p.cells.toArray 31 (0, 0)) from (Below.heap_alloc w6 _ k6 (lt_of_rowW HK6.out)).trans HK6.out)
          have HNN := Lib.hid (And.intro hn hn64)
          clear hn hn64 hnn
          go_wp2_with fail
          refine NO.out.mono ?_
          rintro e w7 ⟨rfl, hwr⟩
          have hwr2 := hwr
          obtain ⟨_, _, hF7, _⟩ := hwr2
          obtain ⟨r7, hW7, hB7, _, hr7⟩ := hwr.step HBW.out HSZ.out HB.out HRR.out
          have hk7 := fr_row hF7 HK6.out HNE.out.1 HNE.out.2
          have HW7 := Lib.hid hW7
          have HB7 := Lib.hid hB7
          have HR7 := Lib.hid hr7
          have HK7 := Lib.hid hk7
          clear hwr hF7 hW7 hB7 hr7 hk7
          have d1 : w7.cell? ⟨k6, 1, none⟩ = some (.int .u64 (n : Int)) := by rw [cell_of_rowW w7 k6 1 _ _ _ HK7.out, ← HNN.out.1]; rfl
          have RN := Lib.hid (refNum_any n HNN.out.2 w7)
          have hes : (str (enc n)).size ≤ 10 := by rw [wstr_size]; exact enc_length n
          clear c1 NO
          go_wp2_with fail
          refine RN.out.mono ?_
          rintro e w8 ⟨rfl, hb8⟩
          have REL := Lib.hid (show W1c w0 b (X ++ enc n) (.string (SX ++ str (enc n))) w8 from ⟨r7, by rw [HSX.out, wstr_app], HW7.out.later hb8, HR7.out, HB7.out.trans (hb8.mono HB7.out.size)⟩)
          clear hb8
          go_wp2_with fail
          go_meet
          rw [HEP.out]
          exact ⟨REL.out, HD5.out⟩
        · have HEP := Lib.hid (show encP p = enc (zig (i64of p.n)) by unfold encP; rw [if_neg (by rw [← HKD.out]; decide), if_neg (by rw [← HKD.out]; decide), if_pos HKD.out.symm])
          obtain ⟨z, hz⟩ : ∃ z, z = i64of p.n := ⟨_, rfl⟩
          rw [← hz] at HEP
          have hzl := i64of_le p.n
          rw [← hz] at hzl
          have hcz : ∀ W : World, (convert 27 2 (.int .u64 p.n)).run Try.prog W = .ok (.int .i64 z) W := fun W => by rw [hz]; exact conv_i64 p.n W
          have IO := Lib.hid (int_one HW.out w6.heap.size rfl z hzl.1 hzl.2 (by have := HXL.out; omega))
          have c1 : w6.cell? ⟨k6, 1, none⟩ = some (.int .u64 p.n) := by rw [cell_of_rowW w6 k6 1 _ _ _ HK6.out]; rfl
          have hcz6 := hcz w6
          have HCZ := Lib.hid hcz
          have HZL := Lib.hid hzl
          have HK6a := Lib.hid (show (w6.alloc (.cells #[.int .i64 z] 2)).heap[k6]? = some (.cells p.cells.toArray 31 (0, 0)) from (Below.heap_alloc w6 _ k6 (lt_of_rowW HK6.out)).trans HK6.out)
          clear hz hzl hcz
          go_wp2_with fail
          refine IO.out.mono ?_
          rintro e w7 ⟨rfl, hwr⟩
          have hwr2 := hwr
          obtain ⟨_, _, hF7, _⟩ := hwr2
          obtain ⟨r7, hW7, hB7, _, hr7⟩ := hwr.step HBW.out HSZ.out HB.out HRR.out
          have hk7 := fr_row hF7 HK6.out HNE.out.1 HNE.out.2
          have HW7 := Lib.hid hW7
          have HB7 := Lib.hid hB7
          have HR7 := Lib.hid hr7
          have HK7 := Lib.hid hk7
          clear hwr hF7 hW7 hB7 hr7 hk7
          have d1 : w7.cell? ⟨k6, 1, none⟩ = some (.int .u64 p.n) := by rw [cell_of_rowW w7 k6 1 _ _ _ HK7.out]; rfl
          have hcz7 := HCZ.out w7
          have RN := Lib.hid (refInt_any z HZL.out.1 HZL.out.2 w7)
          have hes : (str (enc (zig z))).size ≤ 10 := by rw [wstr_size]; exact enc_length _
          clear c1 IO hcz6
          go_wp2_with fail
          refine RN.out.mono ?_
          rintro e w8 ⟨rfl, hb8⟩
          have REL := Lib.hid (show W1c w0 b (X ++ enc (zig z)) (.string (SX ++ str (enc (zig z)))) w8 from ⟨r7, by rw [HSX.out, wstr_app], HW7.out.later hb8, HR7.out, HB7.out.trans (hb8.mono HB7.out.size)⟩)
          clear hb8
          go_wp2_with fail
          go_meet
          rw [HEP.out]
          exact ⟨REL.out, HD5.out⟩
        · have HEP := Lib.hid (show encP p = leTo (p.n.toNat % 4294967296) 4 by unfold encP; rw [if_neg (by rw [← HKD.out]; decide), if_neg (by rw [← HKD.out]; decide), if_neg (by rw [← HKD.out]; decide), if_pos HKD.out.symm])
          obtain ⟨n, hn⟩ : ∃ n : Nat, n = p.n.toNat % 4294967296 := ⟨_, rfl⟩
          rw [← hn] at HEP
          have hnl : n < 4294967296 := by omega
          have hcz : ∀ W : World, (convert 27 38 (.int .u64 p.n)).run Try.prog W = .ok (.int .u32 (n : Int)) W := fun W => by rw [hn]; exact conv_u32 p.n HG.out.n.1 W
          have FX := Lib.hid (wfixed_any HW.out n hnl (by have := HXL.out; omega))
          have c1 : w6.cell? ⟨k6, 1, none⟩ = some (.int .u64 p.n) := by rw [cell_of_rowW w6 k6 1 _ _ _ HK6.out]; rfl
          have hcz6 := hcz w6
          have HCZ := Lib.hid hcz
          have HNL := Lib.hid hnl
          clear hn hnl hcz
          go_wp2_with fail
          refine FX.out.mono ?_
          rintro e w7 ⟨rfl, hwr⟩
          have hwr2 := hwr
          obtain ⟨_, _, hF7, _⟩ := hwr2
          obtain ⟨r7, hW7, hB7, _, hr7⟩ := hwr.step HBW.out HSZ.out HB.out HRR.out
          have hk7 := fr_row hF7 HK6.out HNE.out.1 HNE.out.2
          have HW7 := Lib.hid hW7
          have HB7 := Lib.hid hB7
          have HR7 := Lib.hid hr7
          have HK7 := Lib.hid hk7
          clear hwr hF7 hW7 hB7 hr7 hk7
          have d1 : w7.cell? ⟨k6, 1, none⟩ = some (.int .u64 p.n) := by rw [cell_of_rowW w7 k6 1 _ _ _ HK7.out]; rfl
          have hcz7 := HCZ.out w7
          have RN := Lib.hid (refFixed_any n HNL.out w7)
          have hes : (str (leTo n 4)).size ≤ 10 := by rw [wstr_size, leTo_length]; decide
          clear c1 FX hcz6
          go_wp2_with fail
          refine RN.out.mono ?_
          rintro e w8 ⟨rfl, hb8⟩
          have REL := Lib.hid (show W1c w0 b (X ++ leTo n 4) (.string (SX ++ str (leTo n 4))) w8 from ⟨r7, by rw [HSX.out, wstr_app], HW7.out.later hb8, HR7.out, HB7.out.trans (hb8.mono HB7.out.size)⟩)
          clear hb8
          go_wp2_with fail
          go_meet
          rw [HEP.out]
          exact ⟨REL.out, HD5.out⟩
        · have HEP := Lib.hid (show encP p = enc p.data.length ++ p.data by unfold encP; rw [if_neg (by rw [← HKD.out]; decide), if_neg (by rw [← HKD.out]; decide), if_neg (by rw [← HKD.out]; decide), if_neg (by rw [← HKD.out]; decide), if_pos HKD.out.symm])
          obtain ⟨D, hD⟩ : ∃ D, D = str p.data := ⟨_, rfl⟩
          have hDs : D.size = p.data.length := by rw [hD, wstr_size]
          have hd5 := HD5.out
          have hcz : ∀ W : World, Below w6.heap.size w6 W → (convert 24 9 (.slice p.ao p.data.length p.cap)).run Try.prog W = .ok (.string D) W := fun W hW => by
            obtain ⟨ao', c', e5, hno, hs⟩ := (HG.out.data.below' hW (Nat.le_refl _))
            injection e5 with e1 e2 e3
            subst e1
            rw [hD]
            exact run_convert_sl (n := p.data.length) (c := p.cap) rfl hno hs
          have TX := Lib.hid (wtext_any HW.out D (by rw [hDs]; have := HXL.out; omega))
          rw [hDs, show D.data.toList = p.data by rw [hD]; simp [str]] at TX
          have c3 : w6.cell? ⟨k6, 3, none⟩ = some (.slice p.ao p.data.length p.cap) := by rw [cell_of_rowW w6 k6 3 _ _ _ HK6.out]; rfl
          have hcz6 := hcz w6 (Below.refl _ _)
          have HCD := Lib.hid hD
          have HDS := Lib.hid hDs
          clear hD hDs hcz
          go_wp2_with fail
          refine TX.out.mono ?_
          rintro e w7 ⟨rfl, hwr⟩
          have hwr2 := hwr
          obtain ⟨_, _, hF7, _⟩ := hwr2
          obtain ⟨r7, hW7, hB7, _, hr7⟩ := hwr.step HBW.out HSZ.out HB.out HRR.out
          have hk7 := fr_row hF7 HK6.out HNE.out.1 HNE.out.2
          have HW7 := Lib.hid hW7
          have HB7 := Lib.hid hB7
          have HR7 := Lib.hid hr7
          have HK7 := Lib.hid hk7
          clear hwr hF7 hW7 hB7 hr7 hk7
          have d3 : w7.cell? ⟨k6, 3, none⟩ = some (.slice p.ao p.data.length p.cap) := by rw [cell_of_rowW w7 k6 3 _ _ _ HK7.out]; rfl
          obtain ⟨ao', c', e5, hno, hs⟩ := HGD.out.data.below' HB7.out (Nat.le_refl _)
          injection e5 with e1 e2 e3
          subst e1
          have hcz7 := run_convert_sl (n := p.data.length) (c := p.cap) rfl hno hs
          rw [← HCD.out] at hcz7
          have RT := Lib.hid (refText_any D (by rw [HDS.out]; omega) w7)
          rw [HDS.out, HCD.out, wstr_app] at RT
          rw [← HCD.out] at RT
          have hes : (str (enc p.data.length ++ p.data)).size ≤ 510 := by rw [wstr_size, List.length_append]; have := enc_length p.data.length; omega
          clear c3 TX hcz6 hno hs e2 e3
          go_wp2_with fail
          refine RT.out.mono ?_
          rintro e w8 ⟨rfl, hb8⟩
          have REL := Lib.hid (show W1c w0 b (X ++ (enc p.data.length ++ p.data)) (.string (SX ++ str (enc p.data.length ++ p.data))) w8 from ⟨r7, by rw [HSX.out, wstr_app], by rw [← List.append_assoc]; exact HW7.out.later hb8, HR7.out, HB7.out.trans (hb8.mono HB7.out.size)⟩)
          clear hb8
          go_wp2_with fail
          go_meet
          rw [HEP.out]
          exact ⟨REL.out, HD5.out⟩
        · have HEP := Lib.hid (show encP p = p.sum by unfold encP; rw [if_neg (by rw [← HKD.out]; decide), if_neg (by rw [← HKD.out]; decide), if_neg (by rw [← HKD.out]; decide), if_neg (by rw [← HKD.out]; decide), if_neg (by rw [← HKD.out]; decide), if_pos HKD.out.symm])
          have hs32 := HG.out.sum
          have SU := Lib.hid (wsum_any HW.out p.sum hs32 (by have := HXL.out; omega))
          have HCS := Lib.hid (show ∀ W : World, W.heap[k6]? = some (.cells p.cells.toArray 31 (0, 0)) → ∀ j u, (bvs p.sum)[j]? = some u → W.cell? ((⟨k6, 4, none⟩ : Addr).add j) = some u from fun W hW j u hu => by
            rw [Addr.add_mid, cell_of_rowW W k6 (4 + j) _ _ _ hW]
            have : p.cells[4 + j]? = (bvs p.sum)[j]? := by unfold PartD.cells; rw [List.getElem?_append_right (by simp)]; simp
            simpa [this] using hu)
          have HC6 := Lib.hid (HCS.out w6 HK6.out)
          have HZS := Lib.hid (show (Try.prog.info? 29).map (·.size) = some (bvs p.sum).length by rw [bvs_length, hs32]; kernel_rfl)
          have HS32 := Lib.hid hs32
          clear hs32
          go_wp2_with (with_reducible show wpList _ _ _ _ _ _; refine wpList_load_allW rfl 29 (.tmp 89) rfl ⟨k6, 4, none⟩ rfl (bvs p.sum) _ HC6.out Try.underlying29 rfl HZS.out ?_)
          refine SU.out.mono ?_
          rintro e w7 ⟨rfl, hwr⟩
          have hwr2 := hwr
          obtain ⟨_, _, hF7, _⟩ := hwr2
          obtain ⟨r7, hW7, hB7, _, hr7⟩ := hwr.step HBW.out HSZ.out HB.out HRR.out
          have hk7 := fr_row hF7 HK6.out HNE.out.1 HNE.out.2
          have HW7 := Lib.hid hW7
          have HB7 := Lib.hid hB7
          have HR7 := Lib.hid hr7
          have HK7 := Lib.hid hk7
          clear hwr hF7 hW7 hB7 hr7 hk7
          have hcz7 := run_convert_sl (w := w7) (ao := some ⟨k6, 4, none⟩) (n := 32) (c := 32) (ys := p.sum) HS32.out (fun e => by cases e) (fun a e j u hu => by cases e; exact HCS.out w7 HK7.out j u hu)
          obtain ⟨D, hD⟩ : ∃ D, D = str p.sum := ⟨_, rfl⟩
          rw [← hD] at hcz7
          have hDs : D.size = 32 := by rw [hD, wstr_size, HS32.out]
          have REL := Lib.hid (show W1c w0 b (X ++ p.sum) (.string (SX ++ D)) w7 from ⟨r7, by rw [HSX.out, hD, wstr_app], HW7.out, HR7.out, HB7.out⟩)
          clear hD SU
          go_wp2_with fail
          go_meet
          rw [HEP.out]
          exact ⟨REL.out, HD5.out⟩
        · have HEP := Lib.hid (show encP p = [] by
            have := HKD.out
            unfold encP
            rw [if_neg (by omega), if_neg (by omega), if_neg (by omega), if_neg (by omega), if_neg (by omega), if_neg (by omega)])
          have REL := Lib.hid (show W1c w0 b (X ++ []) (.string SX) w6 from ⟨r, by rw [HSX.out, List.append_nil], by rw [List.append_nil]; exact HW.out, HRR.out, HBW.out⟩)
          go_wp2_with fail
          go_meet
          rw [HEP.out]
          exact ⟨REL.out, HD5.out⟩
      case rest =>
        have HRL := Lib.hid (show ∀ s wx, W1c w0 b (X ++ encP p) s wx → WwRel w0 b L s (.int .i64 ((k + 1 : Nat) : Int)) wx from fun s wx h => by
          have HD5 := Lib.hid hcut.2
          refine ⟨k + 1, rfl, by omega, by rw [HSC.out]; exact h, ?_, fun j hj => ?_⟩
          · rw [HSC.out, List.length_append]
            have h1 := HXL0.out
            have h2 := encP_len HGD.out HD5.out
            omega
          · by_cases e : j = k
            · subst e; rw [← HPP.out]; exact HD5.out
            · exact H500.out j (by omega))
        have RL := Lib.hid (HRL.out _ _ hcut.1)
        clear hcut
        go_wp2_with fail
        exact ⟨RL.out, by simp [intOf]; omega⟩
    · obtain rfl : k = L.length := by omega
      have hkk : ¬ (L.length : Int) < (L.length : Int) := by omega
      clear hkk
      have htk : L.take L.length = L := List.take_length
      rw [htk] at HXL0 HWQ ⊢
      obtain ⟨XS, hXS⟩ : ∃ XS, XS = encAll L := ⟨_, rfl⟩
      rw [← hXS] at HXL0 HWQ ⊢
      obtain ⟨SX, hSX⟩ : ∃ SX, SX = str XS := ⟨_, rfl⟩
      rw [← hSX]
      have hxs : XS.length ≤ 20800 := by have := HXL0.out; omega
      have hSs : SX.size = XS.length := by rw [hSX, wstr_size]
      have HSS := Lib.hid hSs
      have HSX := Lib.hid hSX
      have HXS := Lib.hid hXS
      have HXL := Lib.hid (show XS.length ≤ 140737488355328 by omega)
      have H5 := Lib.hid (show ∀ j, j < L.length → (L.getD j default).data.length ≤ 500 from H500.out)
      have BY := Lib.hid (bytes_any HWQ.out HXL.out)
      clear htk hXS hSX hi hk
      go_wp2_with fail
      refine BY.out.mono ?_
      rintro e wa ⟨aoa, ca, rfl, howna, hba⟩
      have hcv := own_convert howna
      rw [← HSX.out] at hcv
      have LE := Lib.hid (len_any (HWQ.out.later hba))
      have HWA := Lib.hid (HWQ.out.later hba)
      have HBA := Lib.hid (HBQ.out.trans (hba.mono HBQ.out.size))
      have BY2 := Lib.hid (bytes_any HWA.out HXL.out)
      clear howna hba BY
      go_wp2_with (go_at_call 17; refine LE.out.mono ?_; rintro e w' ⟨rfl, rfl⟩)
      refine BY2.out.mono ?_
      rintro e wb ⟨aob, cb, rfl, hownb, hbb⟩
      obtain ⟨s1, s2, s3⟩ := own_slice_src hownb
      have RD := Lib.hid (read_any aob XS.length cb XS rfl (fun e => s2 e) s3 HXL.out)
      have HBB := Lib.hid (HBA.out.trans (hbb.mono HBA.out.size))
      clear hcv hownb hbb s1 s2 s3 BY2 LE
      go_wp2_with fail
      refine RD.out.mono ?_
      rintro e wc ⟨b2, r2, rfl, hRd, hbc, hb2, hr2⟩
      have Z0 := Lib.hid (show WzRel w0 b2 r2 XS L (.int .i64 0) wc from ⟨0, rfl, Nat.zero_le _, hRd, HBB.out.trans (hbc.mono HBB.out.size)⟩)
      have HB2 := Lib.hid (show w0.heap.size ≤ b2 ∧ ∀ g, r2 = some g → w0.heap.size ≤ g from ⟨Nat.le_trans HBB.out.size hb2, fun g e => Nat.le_trans HBB.out.size (hr2 g e)⟩)
      clear hRd hbc hb2 hr2 RD hSs
      go_wp2_with fail
      go_loopw [112] (fun u wr => WzRel w0 b2 r2 XS L u wr) (fun u _ => L.length - (intOf u).toNat)
      case atStart => exact Z0.out
      case round =>
        obtain ⟨wq2, rfl⟩ : ∃ wq2 : World, wq2 = wr := ⟨_, rfl⟩
        obtain ⟨k, rfl, hk, hRd, hbw⟩ := hrel
        have HRD := Lib.hid hRd
        have HBQ2 := Lib.hid hbw
        clear hRd hbw Z0
        by_cases hkl : k < L.length
        · have hkk : (k : Int) < (L.length : Int) := by omega
          obtain ⟨a, rfl, hcell, hg⟩ := HP0.out.at hkl
          have hdrop := encAll_drop hkl
          have hsucc := congrArg List.length (encAll_succ hkl)
          rw [List.length_append] at hsucc
          obtain ⟨p, hp⟩ : ∃ p, p = L.getD k default := ⟨_, rfl⟩
          have hd5 : p.data.length ≤ 500 := by rw [hp]; exact H5.out k hkl
          rw [← hp] at hcell hg hdrop hsucc
          rw [← HXS.out] at hdrop
          obtain ⟨pos, hpos⟩ : ∃ pos, pos = (encAll (L.take k)).length := ⟨_, rfl⟩
          rw [← hpos] at hdrop hsucc HRD
          obtain ⟨rest, hrest⟩ : ∃ rest, rest = encAll (L.drop (k + 1)) := ⟨_, rfl⟩
          rw [← hrest] at hdrop
          have HC := Lib.hid (show ∀ i u, p.cells[i]? = some u → wq2.cell? ((a.add (k * 36)).add i) = some u from fun i u hu => by
            have h := hcell i u hu
            rw [HBQ2.out.cell (World.block_lt_of_cell? w0 _ h)]
            exact h)
          have HZ := Lib.hid (Try.partSize hg)
          have HZ' := Lib.hid (show (Try.prog.info? 31).map (·.size) = some p.cells.toArray.size by rw [List.size_toArray]; exact Try.partSize hg)
          have HO1 := Lib.hid p.cells_one
          obtain ⟨w9, hw9⟩ : ∃ w9, w9 = wq2.alloc (.cells p.cells.toArray 31) := ⟨_, rfl⟩
          obtain ⟨k9, hk9⟩ : ∃ k9, k9 = wq2.heap.size := ⟨_, rfl⟩
          have hb9 : Below wq2.heap.size wq2 w9 := by rw [hw9]; exact (Below.refl _ _).alloc (Nat.le_refl _) _
          have HK9 := Lib.hid (show w9.heap[k9]? = some (.cells p.cells.toArray 31 (0, 0)) by rw [hw9, hk9]; exact heap_alloc_new _ _)
          have HR9 := Lib.hid (show Rd w9 b2 r2 XS pos 0 from Rd.below (B := wq2.heap.size) HRD.out (by first | exact hb9 | exact hb9.mono (Nat.zero_le _)))
          have HB9 := Lib.hid (HBQ2.out.trans (hb9.mono HBQ2.out.size))
          have HNE := Lib.hid (show k9 ≠ b2 by have := HRD.out.lt; omega)
          have HG := Lib.hid (hg.below HB9.out (Nat.le_refl _))
          have HGD := Lib.hid hg
          have HW9 := Lib.hid hw9
          have HKE := Lib.hid hk9
          have HDR := Lib.hid hdrop
          have HSC := Lib.hid hsucc
          have HSZX := Lib.hid (show 36 = p.cells.toArray.size by have := PartD.cells_length hg; simp [this])
          have e0 : w9.cell? ⟨k9, 0, none⟩ = some (.int .i64 p.kind) := by rw [cell_of_rowW w9 k9 0 _ _ _ HK9.out]; rfl
          have FIN := Lib.hid (show ∀ w' , Rd w' b2 r2 XS (pos + (encP p).length) 0 → Fr w9 w' b2 none → Rd w' b2 r2 XS (encAll (L.take (k + 1))).length 0 ∧ Below w0.heap.size w0 w' from fun w' h1 h2 => ⟨by rw [HSC.out]; exact h1, HB9.out.trans (h2.below HB9.out.size HB2.out.1 (fun g e => by cases e))⟩)
          obtain ⟨kd, hkd⟩ : ∃ kd, kd = p.kind := ⟨_, rfl⟩
          rw [← hkd] at e0
          have HKD := Lib.hid hkd
          clear hcell hp hsucc hdrop hpos hrest hg hw9 hk9 hb9 hk hkd
          go_upto_block 4 with fail
          go_cut [] (fun wx => Rd wx b2 r2 XS (encAll (L.take (k + 1))).length 0 ∧ Below w0.heap.size w0 wx)
          case first =>
            go_upto_block 5 with (first
              | (with_reducible show wpList _ _ _ _ _ _; refine wpList_load_allW rfl 31 (.tmp 114) rfl (a.add (k * 36)) rfl p.cells _ HC.out Try.underlying31 rfl HZ.out ?_)
              | (with_reducible show wpList _ _ _ _ _ _; refine wpList_store_newW rfl 31 (.tmp 9) (.tmp 115) rfl 31 _ p.cells.toArray rfl rfl HZ'.out (by with_unfolding_all exact HSZX.out) HO1.out ?_; rw [← HW9.out, ← HKE.out]))
            obtain rfl | rfl | rfl | rfl | rfl | rfl | ⟨n0, n1, n2, n3, n4, n5⟩ : kd = 0 ∨ kd = 1 ∨ kd = 2 ∨ kd = 3 ∨ kd = 4 ∨ kd = 5 ∨ (¬ kd = 0 ∧ ¬ kd = 1 ∧ ¬ kd = 2 ∧ ¬ kd = 3 ∧ ¬ kd = 4 ∧ ¬ kd = 5) := by omega
            · obtain ⟨ao9, hao⟩ : ∃ ao9, ao9 = p.ao := ⟨_, rfl⟩
              have E : encP p = p.data := by unfold encP; rw [if_pos HKD.out.symm]
              have e3 : w9.cell? ⟨k9, 3, none⟩ = some (.slice ao9 p.data.length p.cap) := by rw [cell_of_rowW w9 k9 3 _ _ _ HK9.out, hao]; rfl
              have SLB := Lib.hid (show ∀ W, Below w0.heap.size w0 W → (ao9 = none → p.data = []) ∧ ∀ a, ao9 = some a → ∀ j u, (bvs p.data)[j]? = some u → W.cell? (a.add j) = some u from fun W hB => by
                obtain ⟨ao', c', e5, hno, hs⟩ := HGD.out.data.below' hB (Nat.le_refl _)
                injection e5 with e1 e2 e3
                rw [← hao] at e1
                subst e1
                exact ⟨hno, hs⟩)
              have BRD := Lib.hid (show ∀ j, j < p.data.length → ∀ W, Rd W b2 r2 XS (pos + j) 0 → Calls Try.prog 19 #[.pointer (some ⟨b2, 0, none⟩)] W fun e w' => e = .returned (.int .u8 ((p.data.getD j 0).toNat : Int)) ∧ Rd w' b2 r2 XS (pos + (j + 1)) 0 ∧ Fr W w' b2 none from fun j hj W h => by
                have hd := HDR.out
                rw [E] at hd
                have hlen := congrArg List.length hd
                rw [List.length_drop, List.length_append] at hlen
                have hx : XS.getD (pos + j) 0 = p.data.getD j 0 := by
                  have h2 : (XS.drop pos)[j]? = p.data[j]? := by rw [hd, List.getElem?_append_left hj]
                  rw [List.getElem?_drop] at h2
                  simp only [List.getD, h2]
                have CN := rbyte_any h HXL.out
                have e : rb XS (pos + j) 0 = (p.data.getD j 0, pos + j + 1, 0) := by
                  unfold rb
                  rw [if_neg (by decide), if_pos (by omega), hx]
                rw [e] at CN
                exact CN)
              have Z1 := Lib.hid (show WbRel w9 b2 r2 XS pos p.data.length (.int .i64 0) w9 from ⟨0, rfl, Nat.zero_le _, HR9.out, Fr.refl _ _ _⟩)
              have HEP := Lib.hid E
              clear E hao
              go_wp2_with fail
              go_loopw [123] (fun u wr => WbRel w9 b2 r2 XS pos p.data.length u wr) (fun u _ => p.data.length - (intOf u).toNat)
              case atStart => exact Z1.out
              case round =>
                obtain ⟨wi, rfl⟩ : ∃ wi : World, wi = wr := ⟨_, rfl⟩
                obtain ⟨j, rfl, hj, hRj, hFj⟩ := hrel
                have HRJ := Lib.hid hRj
                have HFJ := Lib.hid hFj
                clear hRj hFj Z1
                by_cases hjl : j < p.data.length
                · have hji : (j : Int) < (p.data.length : Int) := by omega
                  have HBI := Lib.hid (HB9.out.trans (HFJ.out.below HB9.out.size HB2.out.1 (fun g e => by cases e)))
                  obtain ⟨hno, hs⟩ := SLB.out wi HBI.out
                  obtain ⟨ad, rfl⟩ : ∃ ad, ao9 = some ad := by
                    cases ao9 with
                    | none => rw [hno rfl] at hjl; simp at hjl
                    | some ad => exact ⟨ad, rfl⟩
                  have hcj := hs ad rfl j _ (bvs_get _ j hjl)
                  have CB := BRD.out j hjl wi HRJ.out
                  obtain ⟨x, hx⟩ : ∃ x, x = p.data.getD j 0 := ⟨_, rfl⟩
                  rw [← hx] at CB
                  have hx2 : bv p.data[j] = .int .u8 ((x.toNat : Nat) : Int) := by rw [hx]; simp [bv, List.getD, hjl]
                  rw [hx2] at hcj
                  have CC := Lib.hid CB
                  clear hno hs hx hx2 CB
                  go_wp2_with fail
                  refine CC.out.mono ?_
                  rintro e w' ⟨rfl, hR, hF⟩
                  have RL := Lib.hid (show WbRel w9 b2 r2 XS pos p.data.length (.int .i64 ((j + 1 : Nat) : Int)) w' from ⟨j + 1, rfl, by omega, hR, HFJ.out.trans (Or.inl rfl) hF⟩)
                  clear hR hF
                  go_wp2_with fail
                  exact ⟨RL.out, by simp [intOf]; omega⟩
                · obtain rfl : j = p.data.length := by omega
                  have hji : ¬ ((p.data.length : Int) < (p.data.length : Int)) := by omega
                  go_wp2_with fail
                  go_meet
                  exact FIN.out _ (by rw [HEP.out]; exact HRJ.out) HFJ.out
            · obtain ⟨n, hn⟩ : ∃ n : Nat, p.n = (n : Int) := ⟨p.n.toNat, by have := HG.out.n; omega⟩
              have hn64 : n < 18446744073709551616 := by have := HG.out.n; omega
              have hnn : p.n.toNat = n := by omega
              have E : encP p = enc n := by unfold encP; rw [if_neg (by rw [← HKD.out]; decide), if_pos HKD.out.symm, hnn]
              have Q1 : rn XS pos 0 n = (n, pos + (enc n).length, 0) := rn_fwd (rest := rest) (by rw [HDR.out, E]) hn64 (Nat.le_refl _)
              have CN := rnum_any HR9.out.drew HXL.out n hn64
              rw [Q1] at CN
              have CC := Lib.hid CN
              have HEP := Lib.hid E
              have HNN := Lib.hid hn
              clear hn hn64 hnn E Q1 CN
              have KP := Lib.hid (fun (W : World) (h : W.heap[k9]? = some (.cells p.cells.toArray 31 (0, 0))) (hB : Below w0.heap.size w0 W) => (show W.cell? ⟨k9, 1, none⟩ = some (.int .u64 (n : Int)) from by rw [cell_of_rowW W k9 1 _ _ _ h, ← HNN.out]; rfl))
              go_wp2_with fail
              go_region_held3 (fun w' => w'.cell? ⟨k9, 1, none⟩ = some (.int .u64 (n : Int)))
                (first
                  | exact KP.out _ HK9.out HB9.out.drew
                  | exact KP.out _ K8.out BZ.out)
                (first
                  | (go_at_call 20; (with_reducible refine CC.out.mono ?_); rintro e w' ⟨rfl, hR, hF0⟩; have hF : Fr w9 w' b2 none := ⟨hF0.os, hF0.tape, hF0.output, hF0.size, hF0.block⟩; have K8 := Lib.hid (fr_row hF HK9.out HNE.out (by simp)); have BZ := Lib.hid (HB9.out.trans (hF.below HB9.out.size HB2.out.1 (fun g e => by cases e))); have HRZ := Lib.hid hR; have HFZ := Lib.hid hF; clear hR hF hF0))
              all_goals
                clear KP
                go_wp2_with fail
                go_meet
                exact FIN.out _ (by first | exact HRZ.out | (rw [HEP.out]; exact HRZ.out)) HFZ.out
            · obtain ⟨z, hz⟩ : ∃ z, z = i64of p.n := ⟨_, rfl⟩
              have hz64 : zig z < 18446744073709551616 := by rw [hz]; exact zig_lt (i64of_le p.n).1 (i64of_le p.n).2
              have E : encP p = enc (zig z) := by unfold encP; rw [if_neg (by rw [← HKD.out]; decide), if_neg (by rw [← HKD.out]; decide), if_pos HKD.out.symm, ← hz]
              have Q1 : rn XS pos 0 18446744073709551615 = (zig z, pos + (enc (zig z)).length, 0) := rn_fwd (rest := rest) (by rw [HDR.out, E]) hz64 (by omega)
              have CN := rint_any HR9.out.drew HXL.out
              rw [Q1] at CN
              unfold IntPost at CN
              rw [zag_zig] at CN
              have CC := Lib.hid CN
              have HEP := Lib.hid E
              obtain ⟨pn, hpn⟩ : ∃ pn, pn = p.n := ⟨_, rfl⟩
              have CV := Lib.hid (fun W => conv_i64 pn W)
              rw [hpn] at CV
              rw [← hz] at CV
              rw [← hpn] at CV
              have HNN := Lib.hid hpn
              clear hz hz64 E Q1 CN hpn
              have KP := Lib.hid (fun (W : World) (h : W.heap[k9]? = some (.cells p.cells.toArray 31 (0, 0))) (hB : Below w0.heap.size w0 W) => (show W.cell? ⟨k9, 1, none⟩ = some (.int .u64 pn) ∧ (convert 27 2 (.int .u64 pn)).run Try.prog W = .ok (.int .i64 z) W from ⟨by rw [cell_of_rowW W k9 1 _ _ _ h, HNN.out]; rfl, CV.out W⟩))
              go_wp2_with fail
              go_region_held3 (fun w' => w'.cell? ⟨k9, 1, none⟩ = some (.int .u64 pn) ∧ (convert 27 2 (.int .u64 pn)).run Try.prog w' = .ok (.int .i64 z) w')
                (first
                  | exact KP.out _ HK9.out HB9.out.drew
                  | exact KP.out _ K8.out BZ.out)
                (first
                  | (go_at_call 21; (with_reducible refine CC.out.mono ?_); rintro e w' ⟨rfl, hR, hF0⟩; have hF : Fr w9 w' b2 none := ⟨hF0.os, hF0.tape, hF0.output, hF0.size, hF0.block⟩; have K8 := Lib.hid (fr_row hF HK9.out HNE.out (by simp)); have BZ := Lib.hid (HB9.out.trans (hF.below HB9.out.size HB2.out.1 (fun g e => by cases e))); have HRZ := Lib.hid hR; have HFZ := Lib.hid hF; clear hR hF hF0))
              all_goals
                clear KP
                go_wp2_with fail
                go_meet
                exact FIN.out _ (by first | exact HRZ.out | (rw [HEP.out]; exact HRZ.out)) HFZ.out
            · obtain ⟨n, hn⟩ : ∃ n : Nat, n = p.n.toNat % 4294967296 := ⟨_, rfl⟩
              have hn32 : n < 4294967296 := by omega
              have E : encP p = leTo n 4 := by unfold encP; rw [if_neg (by rw [← HKD.out]; decide), if_neg (by rw [← HKD.out]; decide), if_neg (by rw [← HKD.out]; decide), if_pos HKD.out.symm, ← hn]
              have hl4 : (leTo n 4).length = 4 := leTo_length n 4
              have Q1 : nx XS pos 0 4 = (leTo n 4, pos + (leTo n 4).length, 0) := by
                have hd := HDR.out
                rw [E] at hd
                have hlen := congrArg List.length hd
                rw [List.length_drop, List.length_append, hl4] at hlen
                unfold nx
                rw [if_neg (by decide), if_pos (by omega), hd, List.take_left' hl4, hl4]
              have CN := rfixed_any HR9.out.drew HXL.out
              rw [Q1] at CN
              unfold FixPost at CN
              rw [show rfN (leTo n 4) (leTo n 4).length = n by rw [hl4]; exact rfN_leTo n hn32] at CN
              have CC := Lib.hid CN
              have HEP := Lib.hid E
              obtain ⟨pn, hpn⟩ : ∃ pn, pn = p.n := ⟨_, rfl⟩
              have CV := Lib.hid (fun W => conv_u32 pn (by have := HG.out.n; omega) W)
              rw [← hpn] at hn
              rw [← hn] at CV
              have HNN := Lib.hid hpn
              clear hn hn32 hl4 E Q1 CN hpn
              have KP := Lib.hid (fun (W : World) (h : W.heap[k9]? = some (.cells p.cells.toArray 31 (0, 0))) (hB : Below w0.heap.size w0 W) => (show W.cell? ⟨k9, 1, none⟩ = some (.int .u64 pn) ∧ (convert 27 38 (.int .u64 pn)).run Try.prog W = .ok (.int .u32 (n : Int)) W from ⟨by rw [cell_of_rowW W k9 1 _ _ _ h, HNN.out]; rfl, CV.out W⟩))
              go_wp2_with fail
              go_region_held3 (fun w' => w'.cell? ⟨k9, 1, none⟩ = some (.int .u64 pn) ∧ (convert 27 38 (.int .u64 pn)).run Try.prog w' = .ok (.int .u32 (n : Int)) w')
                (first
                  | exact KP.out _ HK9.out HB9.out.drew
                  | exact KP.out _ K8.out BZ.out)
                (first
                  | (go_at_call 22; (with_reducible refine CC.out.mono ?_); rintro e w' ⟨rfl, hR, hF0⟩; have hF : Fr w9 w' b2 none := ⟨hF0.os, hF0.tape, hF0.output, hF0.size, hF0.block⟩; have K8 := Lib.hid (fr_row hF HK9.out HNE.out (by simp)); have BZ := Lib.hid (HB9.out.trans (hF.below HB9.out.size HB2.out.1 (fun g e => by cases e))); have HRZ := Lib.hid hR; have HFZ := Lib.hid hF; clear hR hF hF0))
              all_goals
                clear KP
                go_wp2_with fail
                go_meet
                exact FIN.out _ (by first | exact HRZ.out | (rw [HEP.out]; exact HRZ.out)) HFZ.out
            · have E : encP p = enc p.data.length ++ p.data := by unfold encP; rw [if_neg (by rw [← HKD.out]; decide), if_neg (by rw [← HKD.out]; decide), if_neg (by rw [← HKD.out]; decide), if_neg (by rw [← HKD.out]; decide), if_pos HKD.out.symm]
              have Q1 : rt XS pos 0 = (p.data, pos + (encP p).length, 0) := by
                have h := rt_fwd (s := p.data) (rest := rest) (xs := XS) (k := pos) (by rw [HDR.out, E, List.append_assoc]) (by omega)
                rw [h, E, List.length_append, Nat.add_assoc]
              have CN := rtext_any HR9.out.drew HXL.out
              rw [Q1] at CN
              unfold TextPost at CN
              obtain ⟨D, hD⟩ : ∃ D, D = str p.data := ⟨_, rfl⟩
              have CV := Lib.hid (show ∀ W, Below w0.heap.size w0 W → (convert 24 9 (.slice p.ao p.data.length p.cap)).run Try.prog W = .ok (.string D) W from fun W hB => by
                obtain ⟨ao', c', e5, hno, hs⟩ := HGD.out.data.below' hB (Nat.le_refl _)
                injection e5 with e1 e2 e3
                subst e1
                rw [hD]
                exact run_convert_sl (n := p.data.length) (c := p.cap) rfl hno hs)
              rw [← hD] at CN
              have CC := Lib.hid CN
              clear E Q1 CN hD
              have KP := Lib.hid (fun (W : World) (h : W.heap[k9]? = some (.cells p.cells.toArray 31 (0, 0))) (hB : Below w0.heap.size w0 W) => (show W.cell? ⟨k9, 3, none⟩ = some (.slice p.ao p.data.length p.cap) ∧ (convert 24 9 (.slice p.ao p.data.length p.cap)).run Try.prog W = .ok (.string D) W from ⟨by rw [cell_of_rowW W k9 3 _ _ _ h]; rfl, CV.out W hB⟩))
              go_wp2_with fail
              go_region_held3 (fun w' => w'.cell? ⟨k9, 3, none⟩ = some (.slice p.ao p.data.length p.cap) ∧ (convert 24 9 (.slice p.ao p.data.length p.cap)).run Try.prog w' = .ok (.string D) w')
                (first
                  | exact KP.out _ HK9.out HB9.out.drew
                  | exact KP.out _ K8.out BZ.out)
                (first
                  | (go_at_call 23; (with_reducible refine CC.out.mono ?_); rintro e w' ⟨rfl, hR, hF0⟩; have hF : Fr w9 w' b2 none := ⟨hF0.os, hF0.tape, hF0.output, hF0.size, hF0.block⟩; have K8 := Lib.hid (fr_row hF HK9.out HNE.out (by simp)); have BZ := Lib.hid (HB9.out.trans (hF.below HB9.out.size HB2.out.1 (fun g e => by cases e))); have HRZ := Lib.hid hR; have HFZ := Lib.hid hF; clear hR hF hF0))
              all_goals
                clear KP
                go_wp2_with fail
                go_meet
                exact FIN.out _ (by first | exact HRZ.out | (rw [HEP.out]; exact HRZ.out)) HFZ.out
            · have E : encP p = p.sum := by unfold encP; rw [if_neg (by rw [← HKD.out]; decide), if_neg (by rw [← HKD.out]; decide), if_neg (by rw [← HKD.out]; decide), if_neg (by rw [← HKD.out]; decide), if_neg (by rw [← HKD.out]; decide), if_pos HKD.out.symm]
              have hl32 : p.sum.length = 32 := HG.out.sum
              have Q1 : nx XS pos 0 32 = (p.sum, pos + (encP p).length, 0) := by
                have hd := HDR.out
                rw [E] at hd
                have hlen := congrArg List.length hd
                rw [List.length_drop, List.length_append, hl32] at hlen
                unfold nx
                rw [if_neg (by decide), if_pos (by omega), hd, List.take_left' hl32, E, hl32]
              have hsm : sm p.sum = p.sum := by unfold sm; rw [if_neg (fun h => by rw [h] at hl32; simp at hl32)]
              have CC := Lib.hid (show ∀ W, Rd W b2 r2 XS pos 0 → Calls Try.prog 24 #[.pointer (some ⟨b2, 0, none⟩)] W fun e w' => e = .returned (.agg (bvs p.sum).toArray) ∧ Rd w' b2 r2 XS (pos + (encP p).length) 0 ∧ Fr W w' b2 none from fun W h => by
                have CN := rsum_any h HXL.out
                rw [Q1] at CN
                unfold SumPost at CN
                rw [hsm] at CN
                exact CN)
              have HL32 := Lib.hid hl32
              clear E Q1 hsm hl32
              go_upto_region 59 with fail
              have HCS := Lib.hid (show ∀ W : World, W.heap[k9]? = some (.cells p.cells.toArray 31 (0, 0)) → ∀ j u, (bvs p.sum)[j]? = some u → W.cell? ((⟨k9, 4, none⟩ : Addr).add j) = some u from fun W hW j u hu => by
                rw [Addr.add_mid, cell_of_rowW W k9 (4 + j) _ _ _ hW]
                have : p.cells[4 + j]? = (bvs p.sum)[j]? := by unfold PartD.cells; rw [List.getElem?_append_right (by simp)]; simp
                simpa [this] using hu)
              have HZS := Lib.hid (show (Try.prog.info? 29).map (·.size) = some (bvs p.sum).length by rw [bvs_length, HL32.out]; kernel_rfl)
              obtain ⟨q, hq⟩ : ∃ q, q = pos + (encP p).length := ⟨_, rfl⟩
              have HQ := Lib.hid hq
              rw [← hq] at CC
              clear hq
              refine wp_region_slotsG (by kernel_rfl) (by kernel_rfl)
                (fun y => ⟨#[Value.slice (some a) L.length c, undef, u2, Value.pointer (some { block := b, off := 0 }), Value.string SX, undef, u6, Value.pointer (some { block := b2, off := 0 }), undef, Value.pointer (some { block := k9, off := 0 }), undef, u11, Value.bool true, Value.bool false, Value.slice (some a) L.length c, Value.int IntKind.i64 ↑L.length, Value.bool (decide (40 < (↑L.length : Int))), Value.slice (some a) L.length c, Value.int IntKind.i64 ↑L.length, Value.int IntKind.i64 ↑L.length, Value.bool false, u21, u22, u23, u24, u25, u26, u27, u28, u29, u30, u31, u32, u33, u34, u35, u36, u37, u38, u39, u40, u41, u42, u43, u44, u45, u46, u47, u48, u49, u50, u51, u52, u53, u54, u55, u56, u57, u58, u59, u60, u61, u62, u63, u64, u65, u66, u67, u68, u69, u70, u71, u72, u73, u74, u75, u76, u77, u78, u79, u80, u81, u82, u83, u84, u85, u86, u87, u88, u89, u90, u91, u92, u93, u94, u95, u96, u97, Value.slice aoa XS.length ca, Value.string SX, Value.string SX, Value.bool false, Value.bool false, Value.int IntKind.i64 ↑XS.length, Value.string SX, Value.int IntKind.i64 ↑XS.length, Value.bool false, Value.bool false, Value.slice aob XS.length cb, Value.pointer (some { block := b2, off := 0 }), Value.slice (some a) L.length c, Value.int IntKind.i64 ↑L.length, Value.int IntKind.i64 ↑k, Value.bool true, Value.pointer (some (a.add (k * 36))), Value.agg p.cells.toArray, Value.pointer (some { block := k9, off := 0 }), Value.int IntKind.i64 5, Value.bool false, Value.bool false, u120, u121, u122, u123, u124, u125, u126, u127, u128, u129, u130, u131, Value.bool false, Value.bool false, u134, u135, u136, u137, u138, u139, u140, Value.bool false, Value.bool false, u143, u144, u145, u146, u147, u148, Value.bool false, Value.bool false, u151, u152, u153, u154, u155, u156, Value.bool false, Value.bool false, u159, u160, u161, u162, u163, u164, Value.bool true, Value.bool true, y 0, y 1, y 2, y 3, y 4, u172, undef, undef, undef, undef, undef, undef, undef, undef, undef, undef, undef, undef, undef, undef, undef], []⟩)
                (smF p.sum b2 k9) (smS w9 b2 r2 XS pos q) (fun _ _ => True) (fun _ _ _ _ _ h => h) ?_ ?_ (fun j => match j with | 0 => u167 | 1 => u168 | 2 => u169 | 3 => u170 | _ => u171) rfl ⟨HR9.out.drew, (Fr.refl w9 b2 none).drewN 1⟩
              · intro i' o ho L' y wx hd' hi' hx hs
                match i', ho with
                | 0, ho =>
                  obtain rfl := Option.some.inj ho
                  exact .inl ⟨rfl, slot_run rfl ⟨_, rfl, trivial, rfl, smKeep hs (by decide)⟩⟩
                | 1, ho =>
                  obtain rfl := Option.some.inj ho
                  have y0 : y 0 = .pointer (some ⟨b2, 0, none⟩) := hx 0 (hd' ⟨0, .data⟩ (by simp) rfl)
                  refine .inl ⟨rfl, ?_⟩
                  refine slot_call #[.pointer (some ⟨b2, 0, none⟩)] rfl Try.func24 (by kernel_rfl) (by kernel_rfl) (by simp [Act.eval, y0]) ?_
                  have h1 := hs.1
                  rw [hi'] at h1
                  refine (CC.out wx h1).mono ?_
                  rintro e w' ⟨rfl, hR, hF⟩
                  refine ⟨_, rfl, _, rfl, trivial, rfl, ?_, hs.2.trans (Or.inl rfl) hF⟩
                  rw [upd_self, if_pos rfl]
                  exact hR
                | 2, ho =>
                  obtain rfl := Option.some.inj ho
                  refine .inl ⟨rfl, slot_run (v := .pointer (some ⟨k9, 4, none⟩)) (w' := wx) ?_ ⟨_, rfl, trivial, rfl, smKeep hs (by decide)⟩⟩
                  refine runW (fun z => match z with | .tmp 9 => .pointer (some ⟨k9, 0, none⟩) | _ => .bool false) (by kernel_rfl) ?_
                  go_simp
                | 3, ho =>
                  obtain rfl := Option.some.inj ho
                  have y2 : y 2 = .pointer (some ⟨k9, 4, none⟩) := hx 2 (hd' ⟨2, .data⟩ (by simp) rfl)
                  exact .inl ⟨rfl, slot_loadW 29 (.tmp 169) rfl ⟨k9, 4, none⟩ y2 (bvs p.sum) _ (HCS.out wx (fr_row hs.2 HK9.out HNE.out (by simp))) Try.underlying29 rfl HZS.out ⟨_, rfl, trivial, rfl, smKeep hs (by decide)⟩⟩
                | 4, ho =>
                  obtain rfl := Option.some.inj ho
                  have y1 : y 1 = .agg (bvs p.sum).toArray := hx 1 (hd' ⟨1, .data⟩ (by simp) rfl)
                  have y3 : y 3 = .agg (bvs p.sum).toArray := hx 3 (hd' ⟨3, .data⟩ (by simp) rfl)
                  exact .inl ⟨rfl, slot_run (exec_neq rfl p.sum HL32.out y1 y3 wx) ⟨_, rfl, trivial, rfl, smKeep hs (by decide)⟩⟩
                | k + 5, ho => simp at ho
              · intro L' y wx hall hx hs
                have y4 : y 4 = .bool false := hx 4 (hall 4 (by decide))
                rw [y4]
                have h1 := hs.1
                rw [hall 1 (by decide), if_pos rfl] at h1
                have HRZ := Lib.hid h1
                have HFZ := Lib.hid hs.2
                clear hall hx hs y4 h1
                generalize y 0 = v0
                generalize y 1 = v1
                generalize y 2 = v2
                generalize y 3 = v3
                go_wp2_with fail
                go_meet
                exact FIN.out _ (by rw [← HQ.out]; exact HRZ.out) HFZ.out
            · have HEP := Lib.hid (show encP p = [] by have := HKD.out; unfold encP; rw [if_neg (by omega), if_neg (by omega), if_neg (by omega), if_neg (by omega), if_neg (by omega), if_neg (by omega)])
              have HRZ := Lib.hid (show Rd w9 b2 r2 XS (pos + ([] : List UInt8).length) 0 from HR9.out)
              have HFZ := Lib.hid (Fr.refl w9 b2 none)
              go_wp2_with fail
              go_meet
              exact FIN.out _ (by first | exact HRZ.out | (rw [HEP.out]; exact HRZ.out)) HFZ.out
          case rest =>
            have RL := Lib.hid (show WzRel w0 b2 r2 XS L (.int .i64 ((k + 1 : Nat) : Int)) wc from ⟨k + 1, rfl, by omega, hcut.1, hcut.2⟩)
            clear hcut
            go_wp2_with fail
            exact ⟨RL.out, by simp [intOf]; omega⟩
        · obtain rfl : k = L.length := by omega
          have hkk : ¬ (L.length : Int) < (L.length : Int) := by omega
          have hfull : (encAll (L.take L.length)).length = XS.length := by rw [List.take_length, ← HXS.out]
          rw [hfull] at HRD
          have EN := Lib.hid (end_any HRD.out HXL.out)
          have LF := Lib.hid (fun i => left_any (HRD.out.drewN i) HXL.out)
          have AT := Lib.hid (fun i => at_any (HRD.out.drewN i))
          have hrl : rl XS XS.length 0 = 0 := by unfold rl; simp
          have hre : rend XS XS.length 0 = 0 := by unfold rend; rw [hrl]; rfl
          rw [hre] at EN
          rw [hrl] at LF
          have hSs : SX.size = XS.length := HSS.out
          have HBZ := Lib.hid (HB0.out.trans (HBQ2.out.mono HB0.out.size))
          clear hkk hfull hrl hre
          go_wp2_with fail
          refine EN.out.mono ?_
          rintro e wz ⟨rfl, i1, rfl⟩
          have LF1 := Lib.hid (LF.out i1)
          go_wp2_with fail
          refine LF1.out.mono ?_
          rintro e wz ⟨rfl, i2, rfl⟩
          have AT2 := Lib.hid (at_any (HRD.out.drewN (i1 + i2)))
          go_wp2_with fail
          refine AT2.out.mono ?_
          rintro e wz ⟨rfl, rfl⟩
          have HBZ2 := Lib.hid (below_drewN HBZ.out (i1 + i2))
          go_wp2_with fail
          go_ret
          exact ⟨rfl, HBZ2.out⟩
end Go.Proofs.Ytcjnfmlpjolfpaa
