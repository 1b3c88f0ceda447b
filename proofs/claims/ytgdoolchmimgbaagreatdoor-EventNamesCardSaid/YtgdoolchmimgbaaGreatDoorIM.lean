/- The walk of EventNames. -/
import Derived.Test.YtgdoolchmimgbaaGreatDoorIL
namespace Go.Proofs.YtgdoolchmimgbaaGreatDoor.Wi
open Go Go.RowKit
set_option linter.unusedVariables false
set_option linter.unusedSimpArgs false
def wlN (s : List UInt8) : Nat → Int
  | 0 => 0
  | j + 1 => if eNm ((j : Int) + 1) = s then (j : Int) + 1 else wlN s j
theorem wlN_spec (s : List UInt8) : ∀ j : Nat, (wlN s j = 0 ∧ ∀ i : Int, 1 ≤ i → i ≤ j → eNm i ≠ s) ∨ (1 ≤ wlN s j ∧ wlN s j ≤ j ∧ eNm (wlN s j) = s)
  | 0 => .inl ⟨rfl, fun i h1 h2 => by omega⟩
  | j + 1 => by
    rw [wlN]
    by_cases h : eNm ((j : Int) + 1) = s
    · rw [if_pos h]
      exact .inr ⟨by omega, by omega, h⟩
    · rw [if_neg h]
      rcases wlN_spec s j with ⟨a, b⟩ | ⟨a, b, c⟩
      · refine .inl ⟨a, fun i h1 h2 => ?_⟩
        by_cases hi : i ≤ j
        · exact b i h1 hi
        · rw [show i = (j : Int) + 1 by omega]; exact h
      · exact .inr ⟨a, by omega, c⟩
theorem kFrom_spec (s : List UInt8) : ∀ (n : Nat) (k : Int), (kFrom s n k = 0 ∧ ∀ i : Int, k ≤ i → i < k + n → eNm i ≠ s) ∨ (k ≤ kFrom s n k ∧ kFrom s n k < k + n ∧ eNm (kFrom s n k) = s)
  | 0, k => .inl ⟨rfl, fun i h1 h2 => by omega⟩
  | n + 1, k => by
    rw [kFrom]
    by_cases h : eNm k = s
    · rw [if_pos h]
      exact .inr ⟨by omega, by omega, h⟩
    · rw [if_neg h]
      rcases kFrom_spec s n (k + 1) with ⟨a, b⟩ | ⟨a, b, c⟩
      · refine .inl ⟨a, fun i h1 h2 => ?_⟩
        by_cases hi : i = k
        · rw [hi]; exact h
        · exact b i (by omega) (by omega)
      · exact .inr ⟨by omega, by omega, c⟩
theorem kOf_wl (s : List UInt8) : kOfN s = wlN s 21 := by
  unfold kOfN
  rcases kFrom_spec s 21 1 with ⟨a, b⟩ | ⟨a, b, c⟩ <;> rcases wlN_spec s 21 with ⟨d, e⟩ | ⟨d, e, f⟩
  · rw [a, d]
  · exact absurd f (b _ d (by omega))
  · exact absurd c (e _ a (by omega))
  · exact nm_inj ⟨a, by omega⟩ ⟨d, by omega⟩ (c.trans f.symm)
def nmRel (w3 : World) (s : List UInt8) (a i : Value) (wr : World) : Prop := ∃ j : Nat, i = .int .i64 ((j : Int) + 1) ∧ j ≤ 21 ∧ a = .int .i64 (wlN s j) ∧ Below w3.heap.size w3 wr
theorem wlN_b (s : List UInt8) (j : Nat) (hj : j ≤ 21) : -9223372036854775808 ≤ wlN s j ∧ wlN s j ≤ 9223372036854775807 := by
  rcases wlN_spec s j with ⟨a, _⟩ | ⟨a, b, _⟩ <;> omega
set_option maxHeartbeats 16000000 in
set_option maxRecDepth 100000 in
theorem enames_any (k : Int) (S : ByteArray) (hk : -9223372036854775808 ≤ k ∧ k ≤ 9223372036854775807) (w : World) (he : EB w.heap.size w) : Calls Tryz.prog 6 #[.int .i64 k, .string S] w fun e w' => e = .returned (.bool true) ∧ Below w.heap.size w w' := by
  obtain ⟨s, hs⟩ : ∃ s : List UInt8, S = str s := ⟨S.data.toList, (str_ofE S).symm⟩
  have CH := Lib.hid (tells_any w he)
  have HE := Lib.hid he
  have HS := Lib.hid hs
  have HK := Lib.hid hk
  clear hs he
  go_enter Tryz.func6, Tryz.ntmps6
  go_wp2_with fail
  refine CH.out.mono ?_
  rintro e w2 ⟨rfl, hb2⟩
  have B2 := Lib.hid hb2
  clear hb2 hk
  by_cases h100 : (100 : Int) < (S.size : Int)
  · go_wp2_with fail
    go_ret
    exact ⟨rfl, B2.out⟩
  obtain ⟨w3, hw3⟩ : ∃ w3, w3 = w2.alloc (.cells (kE k).cells.toArray 26) := ⟨_, rfl⟩
  obtain ⟨g3, hg3⟩ : ∃ g, g = w2.heap.size := ⟨_, rfl⟩
  have b3 : Below w2.heap.size w2 w3 := by rw [hw3]; exact (Below.refl _ _).alloc (Nat.le_refl _) _
  have n3 : w3.heap[g3]? = some (.cells (kE k).cells.toArray 26 (0, 0)) := by rw [hw3, hg3]; exact heap_alloc_new _ _
  have SB := Lib.hid (show (Tryz.prog.info? 26).map (·.size) = some (kE k).cells.toArray.size from Tryz.evSize' (kE k))
  have HW3 := Lib.hid hw3
  have HG3 := Lib.hid hg3
  have N3 := Lib.hid n3
  have B3 := Lib.hid (B2.out.trans (b3.mono B2.out.size))
  have R0 := Lib.hid (show nmRel w3 s (.int .i64 0) (.int .i64 1) w3 from ⟨0, rfl, by omega, rfl, Below.refl _ _⟩)
  clear hw3 hg3 b3 n3 CH
  go_upto_region 6 with (with_reducible show wpList _ _ _ _ _ _; refine wpList_store_newW rfl 26 (.tmp 5) (.tmp 17) rfl 26 _ (kE k).cells.toArray rfl rfl SB.out rfl (kE k).cells_one ?_)
  rw [← HW3.out, ← HG3.out]
  go_wp2_with fail
  go_loopw [6, 7] (fun a i wr => nmRel w3 s a i wr) (fun _ i _ => (22 - intOf i).toNat)
  case atStart => exact R0.out
  case round =>
    obtain ⟨wq, rfl⟩ : ∃ wq : World, wq = wr := ⟨_, rfl⟩
    obtain ⟨j, rfl, hj, rfl, hbq⟩ := hrel
    have BQ := Lib.hid hbq
    clear hbq R0
    by_cases h21 : j < 21
    · have b1 : (j : Int) + 1 ≤ 21 := by omega
      have NM := rname_any ((j : Int) + 1) (by omega) wq
      have se := str_eqE (eNm ((j : Int) + 1)) s
      have hst : wlN s (j + 1) = if eNm ((j : Int) + 1) = s then ((j : Int) + 1) else wlN s j := rfl
      obtain ⟨M, hM⟩ : ∃ M, M = eNm ((j : Int) + 1) := ⟨_, rfl⟩
      obtain ⟨T, hT⟩ : ∃ T, T = str M := ⟨_, rfl⟩
      rw [← hM] at NM se hst
      rw [← hT] at NM se
      rw [← HS.out] at se
      have HST := Lib.hid hst
      have HNM := Lib.hid NM
      have wb := wlN_b s j hj
      have WB := Lib.hid wb
      clear hM hT hst NM wb
      go_wp2_with fail
      refine HNM.out.mono ?_
      rintro e wz ⟨rfl, hbz⟩
      have BZ := Lib.hid (BQ.out.trans (hbz.mono BQ.out.size))
      clear hbz
      by_cases hms : M = s
      · have e1 : (M == s) = true := by simpa using hms
        rw [e1] at se
        have RL := Lib.hid (show nmRel w3 s (.int .i64 ((j : Int) + 1)) (.int .i64 (((j + 1 : Nat) : Int) + 1)) wz from ⟨j + 1, rfl, h21, by rw [HST.out, if_pos hms], BZ.out⟩)
        go_wp2_with fail
        exact ⟨RL.out, by simp [intOf]; omega⟩
      · have e1 : (M == s) = false := by simpa using hms
        rw [e1] at se
        have RL := Lib.hid (show nmRel w3 s (.int .i64 (wlN s j)) (.int .i64 (((j + 1 : Nat) : Int) + 1)) wz from ⟨j + 1, rfl, h21, by rw [HST.out, if_neg hms], BZ.out⟩)
        go_wp2_with fail
        exact ⟨RL.out, by simp [intOf]; omega⟩
    · obtain rfl : j = 21 := by omega
      have b1 : ((21 : Nat) : Int) + 1 = 22 := rfl
      rw [b1]
      have KI := ekind_any s wq (HE.out.len wq (B3.out.trans (BQ.out.mono B3.out.size)))
      rw [← HS.out, kOf_wl] at KI
      obtain ⟨WN, hWN⟩ : ∃ WN, WN = wlN s 21 := ⟨_, rfl⟩
      have wb : -9223372036854775808 ≤ WN ∧ WN ≤ 9223372036854775807 := by rw [hWN]; exact wlN_b s 21 hj
      rw [← hWN] at KI ⊢
      have HKI := Lib.hid KI
      have WB := Lib.hid wb
      clear KI hWN b1 wb hj
      obtain ⟨M, hM⟩ : ∃ M, M = str (eNm k) := ⟨_, rfl⟩
      have HM := Lib.hid hM
      clear hM
      go_wp2_with fail
      refine HKI.out.mono ?_
      rintro e wa ⟨rfl, na, hwa⟩
      have BA := Lib.hid (show Below w3.heap.size w3 wa by rw [hwa]; exact below_drewG BQ.out na)
      clear hwa
      have NA := Lib.hid (show Calls Tryz.prog 23 #[.int .i64 k] wa fun e w' => e = .returned (.string M) ∧ ∃ n, w' = wa.drewN n by rw [HM.out]; exact ename_any k HK.out wa (HE.out.len wa (B3.out.trans (BA.out.mono B3.out.size))))
      go_wp2_with fail
      refine NA.out.mono ?_
      rintro e wb ⟨rfl, nb, hwb⟩
      have BB := Lib.hid (show Below w3.heap.size w3 wb by rw [hwb]; exact below_drewG BA.out nb)
      clear hwb
      have RN := Lib.hid (show Calls Tryz.prog 21 #[.int .i64 k] wb fun e w' => e = .returned (.string M) ∧ Below wb.heap.size wb w' by rw [HM.out]; exact rname_any k HK.out wb)
      go_wp2_with fail
      refine RN.out.mono ?_
      rintro e wv ⟨rfl, hbv⟩
      have BV := Lib.hid (BB.out.trans (hbv.mono BB.out.size))
      clear hbv
      obtain ⟨T1, hT1⟩ : ∃ T, T = eTask k := ⟨_, rfl⟩
      obtain ⟨T2, hT2⟩ : ∃ T, T = eClo k := ⟨_, rfl⟩
      obtain ⟨T3, hT3⟩ : ∃ T, T = eOut k := ⟨_, rfl⟩
      have HT1 := Lib.hid hT1
      have HT2 := Lib.hid hT2
      have HT3 := Lib.hid hT3
      clear hT1 hT2 hT3
      go_upto_region 14 with fail
      go_cut [8] (fun s wx => s = .bool T1 ∧ wx = wv)
      case first =>
        by_cases h0 : k = 2
        · subst h0
          obtain rfl : T1 = true := by rw [HT1.out]; rfl
          go_wp2_with fail
          go_meet
          all_goals exact ⟨rfl, rfl⟩
        have f0 : (k == 2) = false := by simpa using h0
        by_cases h1 : k = 3
        · subst h1
          obtain rfl : T1 = true := by rw [HT1.out]; rfl
          go_wp2_with fail
          go_meet
          all_goals exact ⟨rfl, rfl⟩
        have f1 : (k == 3) = false := by simpa using h1
        by_cases h2 : k = 5
        · subst h2
          obtain rfl : T1 = true := by rw [HT1.out]; rfl
          go_wp2_with fail
          go_meet
          all_goals exact ⟨rfl, rfl⟩
        have f2 : (k == 5) = false := by simpa using h2
        by_cases h3 : k = 6
        · subst h3
          obtain rfl : T1 = true := by rw [HT1.out]; rfl
          go_wp2_with fail
          go_meet
          all_goals exact ⟨rfl, rfl⟩
        have f3 : (k == 6) = false := by simpa using h3
        obtain rfl : T1 = false := by rw [HT1.out]; unfold eTask; simp; omega
        go_wp2_with fail
        go_meet
        all_goals exact ⟨rfl, rfl⟩
      case rest =>
        obtain ⟨rfl, hw⟩ := hcut
        have hw' := hw.symm
        subst hw'
        clear hw
        go_upto_region 15 with fail
        go_cut [9] (fun s wx => s = .bool T2 ∧ wx = wv)
        case first =>
          by_cases r : 16 ≤ k ∧ k ≤ 21
          · obtain ⟨r1, r2⟩ := r
            obtain rfl : T2 = true := by rw [HT2.out]; unfold eClo; simp; omega
            go_wp2_with fail
            go_meet
            all_goals exact ⟨rfl, rfl⟩
          have r3 : 16 ≤ k → ¬ k ≤ 21 := fun a b => r ⟨a, b⟩
          obtain rfl : T2 = false := by rw [HT2.out]; unfold eClo; simp; omega
          by_cases r1 : 16 ≤ k
          · have r2 := r3 r1
            go_wp2_with fail
            go_meet
            all_goals exact ⟨rfl, rfl⟩
          · go_wp2_with fail
            go_meet
            all_goals exact ⟨rfl, rfl⟩
        case rest =>
          obtain ⟨rfl, hw⟩ := hcut
          have hw' := hw.symm
          subst hw'
          clear hw
          go_upto_region 16 with fail
          go_cut [10] (fun s wx => s = .bool T3 ∧ wx = wv)
          case first =>
            by_cases h0 : k = 1
            · subst h0
              obtain rfl : T3 = true := by rw [HT3.out]; rfl
              go_wp2_with fail
              go_meet
              all_goals exact ⟨rfl, rfl⟩
            have f0 : (k == 1) = false := by simpa using h0
            by_cases r : 8 ≤ k ∧ k ≤ 10
            · obtain ⟨r1, r2⟩ := r
              obtain rfl : T3 = true := by rw [HT3.out]; unfold eOut; simp; omega
              go_wp2_with fail
              go_meet
              all_goals exact ⟨rfl, rfl⟩
            have r3 : 8 ≤ k → ¬ k ≤ 10 := fun a b => r ⟨a, b⟩
            by_cases h2 : k = 12
            · subst h2
              obtain rfl : T3 = true := by rw [HT3.out]; rfl
              go_wp2_with fail
              go_meet
              all_goals exact ⟨rfl, rfl⟩
            have f2 : (k == 12) = false := by simpa using h2
            by_cases h3 : k = 14
            · subst h3
              obtain rfl : T3 = true := by rw [HT3.out]; rfl
              go_wp2_with fail
              go_meet
              all_goals exact ⟨rfl, rfl⟩
            have f3 : (k == 14) = false := by simpa using h3
            by_cases h4 : k = 15
            · subst h4
              obtain rfl : T3 = true := by rw [HT3.out]; rfl
              go_wp2_with fail
              go_meet
              all_goals exact ⟨rfl, rfl⟩
            have f4 : (k == 15) = false := by simpa using h4
            by_cases h5 : k = 19
            · subst h5
              obtain rfl : T3 = true := by rw [HT3.out]; rfl
              go_wp2_with fail
              go_meet
              all_goals exact ⟨rfl, rfl⟩
            have f5 : (k == 19) = false := by simpa using h5
            by_cases h6 : k = 20
            · subst h6
              obtain rfl : T3 = true := by rw [HT3.out]; rfl
              go_wp2_with fail
              go_meet
              all_goals exact ⟨rfl, rfl⟩
            have f6 : (k == 20) = false := by simpa using h6
            obtain rfl : T3 = false := by rw [HT3.out]; unfold eOut; simp; omega
            by_cases r1 : 8 ≤ k
            · have r2 := r3 r1
              go_wp2_with fail
              go_meet
              all_goals exact ⟨rfl, rfl⟩
            · go_wp2_with fail
              go_meet
              all_goals exact ⟨rfl, rfl⟩
          case rest =>
            obtain ⟨rfl, hw⟩ := hcut
            have hw' := hw.symm
            subst hw'
            clear hw
            go_upto_region 17 with fail
            have CT := Lib.hid (fun W => show Calls Tryz.prog 24 #[.agg (kE k).cells.toArray] W fun e w' => e = .returned (.bool T1) ∧ Below W.heap.size W w' by rw [HT1.out]; exact etask_any (kE k) W)
            have CC := Lib.hid (fun W => show Calls Tryz.prog 25 #[.agg (kE k).cells.toArray] W fun e w' => e = .returned (.bool T2) ∧ Below W.heap.size W w' by rw [HT2.out]; exact ecloses_any (kE k) W)
            have CO := Lib.hid (fun W => show Calls Tryz.prog 26 #[.agg (kE k).cells.toArray] W fun e w' => e = .returned (.bool T3) ∧ Below W.heap.size W w' by rw [HT3.out]; exact eoutside_any (kE k) W)
            have KE := Lib.hid (fun (W : World) (h : Below w3.heap.size w3 W) => rowEB N3.out h)
            obtain ⟨KX, hKX⟩ : ∃ KX, KX = kE k := ⟨_, rfl⟩
            rw [← hKX] at CT CC CO KE
            clear hKX
            have Ka := Lib.hid (KE.out wv BV.out)
            go_wp2_with (with_reducible show wpList _ _ _ _ _ _; refine wpList_load_allW rfl 26 (.tmp 5) rfl ⟨g3,0,none⟩ rfl KX.cells _ Ka.out Tryz.underlying26 rfl (Tryz.evSize KX) ?_)
            refine (CT.out _).mono ?_
            rintro e x1 ⟨rfl, hx⟩
            have B1 := Lib.hid (BV.out.trans (hx.mono BV.out.size))
            clear hx
            have Kb := Lib.hid (KE.out x1 B1.out)
            go_wp2_with (with_reducible show wpList _ _ _ _ _ _; refine wpList_loadWanted (by with_unfolding_all rfl) 26 (.tmp 5) rfl ⟨g3,0,none⟩ (by with_unfolding_all rfl) KX.cells _ Kb.out Tryz.underlying26 rfl (Tryz.evSize KX) ?_)
            refine (CC.out _).mono ?_
            rintro e x2 ⟨rfl, hx⟩
            have BC := Lib.hid (B1.out.trans (hx.mono B1.out.size))
            clear hx
            have Kc := Lib.hid (KE.out x2 BC.out)
            go_wp2_with (with_reducible show wpList _ _ _ _ _ _; refine wpList_loadWanted (by with_unfolding_all rfl) 26 (.tmp 5) rfl ⟨g3,0,none⟩ (by with_unfolding_all rfl) KX.cells _ Kc.out Tryz.underlying26 rfl (Tryz.evSize KX) ?_)
            refine (CO.out _).mono ?_
            rintro e x3 ⟨rfl, hx⟩
            have RL := Lib.hid (B3.out.trans ((BC.out.trans (hx.mono BC.out.size)).mono B3.out.size))
            clear hx
            go_wp2_with fail
            go_ret
            exact ⟨rfl, RL.out⟩
end Go.Proofs.YtgdoolchmimgbaaGreatDoor.Wi
