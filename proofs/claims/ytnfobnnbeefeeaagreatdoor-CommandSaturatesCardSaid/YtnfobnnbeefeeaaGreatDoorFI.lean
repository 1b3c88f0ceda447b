/- The walks of CommandKinds and CommandSaturates. -/
import Derived.Test.YtnfobnnbeefeeaaGreatDoorGX
namespace Go.Proofs.YtnfobnnbeefeeaaGreatDoor.Wi
open Go Go.RowKit
set_option linter.unusedVariables false
set_option linter.unusedSimpArgs false
set_option maxHeartbeats 16000000 in
set_option maxRecDepth 100000 in
theorem ckinds_any (k : Int) (hk : -9223372036854775808 ≤ k ∧ k ≤ 9223372036854775807) (w : World) (he : CB w.heap.size w) : Calls Tryz.prog 9 #[.int .i64 k] w fun e w' => e = .returned (.bool true) ∧ Below w.heap.size w w' := by
  have CH := Lib.hid (wants_any w he)
  have HE := Lib.hid he
  have HK := Lib.hid hk
  clear he
  go_enter Tryz.func9, Tryz.ntmps9
  go_wp2_with fail
  refine CH.out.mono ?_
  rintro e w2 ⟨rfl, hb2⟩
  have B2 := Lib.hid hb2
  clear hb2 hk
  obtain ⟨w3, hw3⟩ : ∃ w3, w3 = w2.alloc (.cells #[.int .i64 0, .int .i64 0, .int .i64 0, .int .i64 0, .string ⟨#[]⟩, .int .i64 0, .int .i64 0, .string ⟨#[]⟩, .slice none 0 0] 42) := ⟨_, rfl⟩
  obtain ⟨g3, hg3⟩ : ∃ g, g = w2.heap.size := ⟨_, rfl⟩
  obtain ⟨w4, hw4⟩ : ∃ w4, w4 = w3.alloc (.cells #[.int .i64 0, .int .i64 0, .int .i64 0, .int .i64 0, .int .i64 0, .string ⟨#[]⟩, .string ⟨#[]⟩, .int .i64 0, .int .i64 0, .string ⟨#[]⟩, .slice none 0 0] 28) := ⟨_, rfl⟩
  obtain ⟨g4, hg4⟩ : ∃ g, g = w3.heap.size := ⟨_, rfl⟩
  have hg4' : g4 = w2.heap.size + 1 := by rw [hg4, hw3]; simp
  have b3 : Below w2.heap.size w2 w3 := by rw [hw3]; exact (Below.refl _ _).alloc (Nat.le_refl _) _
  have b4 : Below w3.heap.size w3 w4 := by rw [hw4]; exact (Below.refl _ _).alloc (Nat.le_refl _) _
  have n3 : w4.heap[g3]? = some (.cells z9.toArray 42 (0, 0)) := by
    have h : w3.heap[g3]? = some (.cells z9.toArray 42 (0, 0)) := by rw [hw3, hg3]; exact heap_alloc_new _ _
    exact (b4.block g3 (lt_of_rowK h)).trans h
  have n4 : w4.heap[g4]? = some (.cells z11.toArray 28 (0, 0)) := by rw [hw4, hg4]; exact heap_alloc_new _ _
  obtain ⟨C, hC⟩ : ∃ C : Cm, C = kC k := ⟨_, rfl⟩
  obtain ⟨E, hE⟩ : ∃ E : Ev, E = kE k := ⟨_, rfl⟩
  obtain ⟨w5, hw5⟩ : ∃ w5, w5 = w4.setRow g3 (lit9 k) := ⟨_, rfl⟩
  obtain ⟨w6, hw6⟩ : ∃ w6, w6 = w5.setRow g4 (lit11 k) := ⟨_, rfl⟩
  have n5 : w5.heap[g4]? = some (.cells z11.toArray 28 (0, 0)) := by rw [hw5]; exact (setRow_other w4 g3 g4 _ (by omega)).trans n4
  have r5 : w5.heap[g3]? = some (.cells (lit9 k) 42 (0, 0)) := by rw [hw5]; exact setRow_heap _ g3 _ _ _ _ n3
  have r6 : w6.heap[g3]? = some (.cells C.cells.toArray 42 (0, 0)) := by rw [hw6, hC, kC_cells]; exact (setRow_other w5 g4 g3 _ (by omega)).trans r5
  have s6 : w6.heap[g4]? = some (.cells E.cells.toArray 28 (0, 0)) := by rw [hw6, hE, kE_cells]; exact setRow_heap _ g4 _ _ _ _ n5
  have b6 : Below w2.heap.size w2 w6 := by
    have h := b3.trans (b4.mono b3.size)
    rw [hw6, hw5]
    exact ⟨h.os, h.tape, h.output, by simpa using h.size, fun q hq => (setRow_other _ g4 q _ (by omega)).trans ((setRow_other _ g3 q _ (by omega)).trans (h.block q hq))⟩
  have B6 := Lib.hid (B2.out.trans (b6.mono B2.out.size))
  have HW3 := Lib.hid hw3
  have HG3 := Lib.hid hg3
  have HW4 := Lib.hid hw4
  have HG4 := Lib.hid hg4'
  have HW5 := Lib.hid hw5
  have HW6 := Lib.hid hw6
  have N3 := Lib.hid n3
  have N5 := Lib.hid n5
  have R6 := Lib.hid r6
  have S6 := Lib.hid s6
  have SC := Lib.hid (show (Tryz.prog.info? 42).map (·.size) = some (lit9 k).size by kernel_rfl)
  have OC := Lib.hid (show (lit9 k).all (·.oneCell') = true by rw [← kC_cells]; exact (kC k).cells_one)
  have SE := Lib.hid (show (Tryz.prog.info? 28).map (·.size) = some (lit11 k).size by kernel_rfl)
  have OE := Lib.hid (show (lit11 k).all (·.oneCell') = true by rw [← kE_cells]; exact (kE k).cells_one)
  have E6 := Lib.hid ((HE.out.on B6.out).base B6.out.size)
  have CK := Lib.hid (show C.kind = k by rw [hC]; rfl)
  have EK := Lib.hid (show E.kind = k by rw [hE]; rfl)
  clear hw3 hg3 hw4 hg4 hg4' b3 b4 n3 n4 hw5 hw6 n5 r5 r6 s6 b6 hC hE
  go_upto_region 4 with (first
    | (with_reducible show wpList _ _ _ _ _ _; rw [← HG4.out, ← HW3.out, ← HG3.out, ← HW4.out]; refine wpList_store_whole rfl 42 (.tmp 3) (.tmp 9) rfl g3 42 z9.toArray (lit9 k) rfl rfl N3.out SC.out rfl OC.out ?_; rw [← HW5.out])
    | (with_reducible show wpList _ _ _ _ _ _; refine wpList_store_whole rfl 28 (.tmp 4) (.tmp 11) rfl g4 28 z11.toArray (lit11 k) rfl rfl N5.out SE.out rfl OE.out ?_; rw [← HW6.out]))
  obtain ⟨MD, hMD⟩ : ∃ m, m = eMd k := ⟨_, rfl⟩
  have HMD := Lib.hid hMD
  clear hMD
  simp only [Act.put, List.setIfInBounds_toArray, List.set_cons_zero, List.set_cons_succ, List.getElem_toArray, List.getElem_cons_zero, List.getElem_cons_succ]
  go_cut [5] (fun s wx => s = .bool MD ∧ wx = w6)
  case first =>
    by_cases h0 : k = 7
    · subst h0
      obtain rfl : MD = true := by rw [HMD.out]; rfl
      go_wp2_with fail
      go_meet
      all_goals exact ⟨rfl, rfl⟩
    have f0 : (k == 7) = false := by simpa using h0
    by_cases h1 : k = 11
    · subst h1
      obtain rfl : MD = true := by rw [HMD.out]; rfl
      go_wp2_with fail
      go_meet
      all_goals exact ⟨rfl, rfl⟩
    have f1 : (k == 11) = false := by simpa using h1
    by_cases h2 : k = 13
    · subst h2
      obtain rfl : MD = true := by rw [HMD.out]; rfl
      go_wp2_with fail
      go_meet
      all_goals exact ⟨rfl, rfl⟩
    have f2 : (k == 13) = false := by simpa using h2
    by_cases h3 : k = 16
    · subst h3
      obtain rfl : MD = true := by rw [HMD.out]; rfl
      go_wp2_with fail
      go_meet
      all_goals exact ⟨rfl, rfl⟩
    have f3 : (k == 16) = false := by simpa using h3
    by_cases h4 : k = 17
    · subst h4
      obtain rfl : MD = true := by rw [HMD.out]; rfl
      go_wp2_with fail
      go_meet
      all_goals exact ⟨rfl, rfl⟩
    have f4 : (k == 17) = false := by simpa using h4
    by_cases h5 : k = 21
    · subst h5
      obtain rfl : MD = true := by rw [HMD.out]; rfl
      go_wp2_with fail
      go_meet
      all_goals exact ⟨rfl, rfl⟩
    have f5 : (k == 21) = false := by simpa using h5
    obtain rfl : MD = false := by rw [HMD.out]; unfold eMd; simp; omega
    go_wp2_with fail
    go_meet
    all_goals exact ⟨rfl, rfl⟩
  case rest =>
    obtain ⟨rfl, hw⟩ := hcut
    have hw' := hw.symm
    subst hw'
    clear hw
    obtain ⟨M, hM⟩ : ∃ M, M = str (cNm k) := ⟨_, rfl⟩
    obtain ⟨R, hR⟩ : ∃ R, R = (decide (4 ≤ k) && decide (k ≤ 6)) := ⟨_, rfl⟩
    have NA := Lib.hid (show Calls Tryz.prog 39 #[.int .i64 k] w6 fun e w' => e = .returned (.string M) ∧ Below w6.heap.size w6 w' by rw [hM]; exact cname_any k HK.out w6 E6.out)
    have RN := Lib.hid (fun W => show Calls Tryz.prog 40 #[.int .i64 k] W fun e w' => e = .returned (.string M) ∧ Below W.heap.size W w' by rw [hM]; exact rcname_any k HK.out W)
    have EN := Lib.hid (fun W => show Calls Tryz.prog 32 #[.agg C.cells.toArray] W fun e w' => e = .returned (.bool R) ∧ Below W.heap.size W w' from by
      have h := cends_any C W
      unfold Cm.ends at h
      rw [CK.out, ← hR] at h
      exact h)
    have MDc := Lib.hid (fun W (h : Below w6.heap.size w6 W) => show Calls Tryz.prog 34 #[.agg E.cells.toArray] W fun e w' => e = .returned (.bool MD) ∧ Below W.heap.size W w' from by
      have h1 := cmade_any E W ((E6.out.on h).base h.size)
      rw [EK.out, ← HMD.out] at h1
      exact h1)
    have KC := Lib.hid (fun (W : World) (h : Below w6.heap.size w6 W) => rowCB R6.out h)
    have KE := Lib.hid (fun (W : World) (h : Below w6.heap.size w6 W) => rowEB (x := E) S6.out h)
    have HR := Lib.hid hR
    clear hM hR
    go_wp2_with fail
    refine NA.out.mono ?_
    rintro e x1 ⟨rfl, hx1⟩
    have H1 := Lib.hid hx1
    clear hx1
    go_wp2_with fail
    refine (RN.out x1).mono ?_
    rintro e x2 ⟨rfl, hx2⟩
    have H2 := Lib.hid (H1.out.trans (hx2.mono H1.out.size))
    clear hx2
    have kc := Lib.hid (KC.out x2 H2.out)
    go_wp2_with (with_reducible show wpList _ _ _ _ _ _; refine wpList_loadWanted (by with_unfolding_all rfl) 42 (.tmp 3) rfl ⟨g3,0,none⟩ (by with_unfolding_all rfl) C.cells _ kc.out Tryz.underlying42 rfl (Tryz.cmSize C) ?_)
    refine (EN.out x2).mono ?_
    rintro e x3 ⟨rfl, hx3⟩
    have H3 := Lib.hid (H2.out.trans (hx3.mono H2.out.size))
    clear hx3
    have ke := Lib.hid (KE.out x3 H3.out)
    by_cases h4 : 4 ≤ k
    · by_cases h6 : k ≤ 6
      · obtain rfl : R = true := by rw [HR.out]; simp [h4, h6]
        have d1 := decide_eq_true h4
        have d2 := decide_eq_true h6
        go_wp2_with (with_reducible show wpList _ _ _ _ _ _; refine wpList_loadWanted (by with_unfolding_all rfl) 28 (.tmp 4) rfl ⟨g4,0,none⟩ (by with_unfolding_all rfl) E.cells _ ke.out Tryz.underlying28 rfl (Tryz.evSize E) ?_)
        refine (MDc.out x3 H3.out).mono ?_
        rintro e x4 ⟨rfl, hx4⟩
        have RL := Lib.hid (B6.out.trans ((H3.out.trans (hx4.mono H3.out.size)).mono B6.out.size))
        clear hx4
        go_wp2_with fail
        go_ret
        exact ⟨rfl, RL.out⟩
      · obtain rfl : R = false := by rw [HR.out]; simp [h4, h6]
        have d1 := decide_eq_true h4
        have d2 := decide_eq_false h6
        go_wp2_with (with_reducible show wpList _ _ _ _ _ _; refine wpList_loadWanted (by with_unfolding_all rfl) 28 (.tmp 4) rfl ⟨g4,0,none⟩ (by with_unfolding_all rfl) E.cells _ ke.out Tryz.underlying28 rfl (Tryz.evSize E) ?_)
        refine (MDc.out x3 H3.out).mono ?_
        rintro e x4 ⟨rfl, hx4⟩
        have RL := Lib.hid (B6.out.trans ((H3.out.trans (hx4.mono H3.out.size)).mono B6.out.size))
        clear hx4
        go_wp2_with fail
        go_ret
        exact ⟨rfl, RL.out⟩
    · obtain rfl : R = false := by rw [HR.out]; simp [h4]
      have d1 := decide_eq_false h4
      go_wp2_with (with_reducible show wpList _ _ _ _ _ _; refine wpList_loadWanted (by with_unfolding_all rfl) 28 (.tmp 4) rfl ⟨g4,0,none⟩ (by with_unfolding_all rfl) E.cells _ ke.out Tryz.underlying28 rfl (Tryz.evSize E) ?_)
      refine (MDc.out x3 H3.out).mono ?_
      rintro e x4 ⟨rfl, hx4⟩
      have RL := Lib.hid (B6.out.trans ((H3.out.trans (hx4.mono H3.out.size)).mono B6.out.size))
      clear hx4
      go_wp2_with fail
      go_ret
      exact ⟨rfl, RL.out⟩
set_option maxHeartbeats 16000000 in
set_option maxRecDepth 100000 in
theorem csaturates_any (n a b : Int) (hn : -9223372036854775808 ≤ n ∧ n ≤ 9223372036854775807) (ha : -9223372036854775808 ≤ a ∧ a ≤ 9223372036854775807) (hb : -9223372036854775808 ≤ b ∧ b ≤ 9223372036854775807) (w : World) (he : CB w.heap.size w) : Calls Tryz.prog 10 #[.int .i64 n, .int .i64 a, .int .i64 b] w fun e w' => e = .returned (.bool true) ∧ Below w.heap.size w w' := by
  have CH := Lib.hid (wants_any w he)
  have SA := Lib.hid (fun (t : Int) (ht : -9223372036854775808 ≤ t ∧ t ≤ 9223372036854775807) W => csat_any n t hn ht W)
  have SM := Lib.hid (fun W => csat_any (-1) a (by decide) ha W)
  have SN := Lib.hid (fun W => csat_any n (-1) hn (by decide) W)
  rw [show sat (-1) a = 0 by unfold sat; rw [if_pos (.inl (by decide))]] at SM
  rw [show sat n (-1) = 0 by unfold sat; rw [if_pos (.inr (by decide))]] at SN
  have BA := Lib.hid ha
  have BB := Lib.hid hb
  have BN := Lib.hid hn
  clear he hn ha hb
  go_enter Tryz.func10, Tryz.ntmps10
  go_wp2_with fail
  refine CH.out.mono ?_
  rintro e w2 ⟨rfl, hb2⟩
  have B2 := Lib.hid hb2
  clear hb2
  by_cases h0 : n < 0
  case pos =>
    go_wp2_with fail
    refine (SM.out _).mono ?_
    rintro _ wz ⟨rfl, hwz⟩
    have hwz2 := hwz.symm
    subst hwz2
    clear hwz
    go_wp2_with fail
    refine (SN.out _).mono ?_
    rintro _ wz ⟨rfl, hwz⟩
    have hwz2 := hwz.symm
    subst hwz2
    clear hwz
    go_wp2_with fail
    go_ret
    exact ⟨rfl, B2.out⟩
  by_cases h1 : 4611686018427387903 < n
  case pos =>
    go_wp2_with fail
    refine (SM.out _).mono ?_
    rintro _ wz ⟨rfl, hwz⟩
    have hwz2 := hwz.symm
    subst hwz2
    clear hwz
    go_wp2_with fail
    refine (SN.out _).mono ?_
    rintro _ wz ⟨rfl, hwz⟩
    have hwz2 := hwz.symm
    subst hwz2
    clear hwz
    go_wp2_with fail
    go_ret
    exact ⟨rfl, B2.out⟩
  by_cases h2 : a < 0
  case pos =>
    go_wp2_with fail
    refine (SM.out _).mono ?_
    rintro _ wz ⟨rfl, hwz⟩
    have hwz2 := hwz.symm
    subst hwz2
    clear hwz
    go_wp2_with fail
    refine (SN.out _).mono ?_
    rintro _ wz ⟨rfl, hwz⟩
    have hwz2 := hwz.symm
    subst hwz2
    clear hwz
    go_wp2_with fail
    go_ret
    exact ⟨rfl, B2.out⟩
  by_cases h3 : b < 0
  case pos =>
    go_wp2_with fail
    refine (SM.out _).mono ?_
    rintro _ wz ⟨rfl, hwz⟩
    have hwz2 := hwz.symm
    subst hwz2
    clear hwz
    go_wp2_with fail
    refine (SN.out _).mono ?_
    rintro _ wz ⟨rfl, hwz⟩
    have hwz2 := hwz.symm
    subst hwz2
    clear hwz
    go_wp2_with fail
    go_ret
    exact ⟨rfl, B2.out⟩
  by_cases hab : b < a
  case pos =>
    have F1 := Lib.hid (SA.out b BB.out)
    have F2 := Lib.hid (SA.out a BA.out)
    have e1 : sat n b = if 4611686018427387903 - b < n then 4611686018427387903 else n + b := sat_of ⟨by omega, by omega⟩ (by omega)
    have e2 : sat n a = if 4611686018427387903 - a < n then 4611686018427387903 else n + a := sat_of ⟨by omega, by omega⟩ (by omega)
    obtain ⟨x, hx⟩ : ∃ x, x = sat n b := ⟨_, rfl⟩
    obtain ⟨y, hy⟩ : ∃ y, y = sat n a := ⟨_, rfl⟩
    rw [← hx] at F1 e1
    rw [← hy] at F2 e2
    have k1 : x ≤ y := by rw [e1, e2]; split <;> split <;> omega
    have k2 : y ≤ 4611686018427387903 := by rw [e2]; split <;> omega
    have k3 : n ≤ x := by rw [e1]; split <;> omega
    have k4 : b ≤ 4611686018427387903 - n → x = n + b := by intro h; rw [e1, if_neg (by omega)]
    have k5 : ¬ b ≤ 4611686018427387903 - n → x = 4611686018427387903 := by intro h; rw [e1, if_pos (by omega)]
    clear e1 e2 hx hy
    have m1 : ¬ y < x := by omega
    have m2 : ¬ 4611686018427387903 < y := by omega
    have m3 : ¬ x < n := by omega
    have l1 : -9223372036854775808 ≤ 4611686018427387903 - n := by omega
    have l2 : 4611686018427387903 - n < 9223372036854775808 := by omega
    by_cases hq : b ≤ 4611686018427387903 - n
    · have hx := k4 hq
      have l3 : -9223372036854775808 ≤ n + b := by omega
      have l4 : n + b < 9223372036854775808 := by omega
      have HX := Lib.hid hx
      clear k1 k2 k3 k4 k5 hx
      go_wp2_with (first | ((with_reducible refine (F1.out _).mono ?_); rintro _ wz ⟨rfl, hwz⟩; have hwz2 := hwz.symm; subst hwz2; clear hwz) | ((with_reducible refine (F2.out _).mono ?_); rintro _ wz ⟨rfl, hwz⟩; have hwz2 := hwz.symm; subst hwz2; clear hwz))
      go_ret
      refine ⟨?_, B2.out⟩
      first | rfl | (rw [HX.out]; simp)
    · have hx := k5 hq
      have hq2 : 4611686018427387903 - n < b := by omega
      have HX := Lib.hid hx
      clear k1 k2 k3 k4 k5 hx
      go_wp2_with (first | ((with_reducible refine (F1.out _).mono ?_); rintro _ wz ⟨rfl, hwz⟩; have hwz2 := hwz.symm; subst hwz2; clear hwz) | ((with_reducible refine (F2.out _).mono ?_); rintro _ wz ⟨rfl, hwz⟩; have hwz2 := hwz.symm; subst hwz2; clear hwz))
      go_ret
      refine ⟨?_, B2.out⟩
      first | rfl | (rw [HX.out]; simp)
  case neg =>
    have F1 := Lib.hid (SA.out a BA.out)
    have F2 := Lib.hid (SA.out b BB.out)
    have e1 : sat n a = if 4611686018427387903 - a < n then 4611686018427387903 else n + a := sat_of ⟨by omega, by omega⟩ (by omega)
    have e2 : sat n b = if 4611686018427387903 - b < n then 4611686018427387903 else n + b := sat_of ⟨by omega, by omega⟩ (by omega)
    obtain ⟨x, hx⟩ : ∃ x, x = sat n a := ⟨_, rfl⟩
    obtain ⟨y, hy⟩ : ∃ y, y = sat n b := ⟨_, rfl⟩
    rw [← hx] at F1 e1
    rw [← hy] at F2 e2
    have k1 : x ≤ y := by rw [e1, e2]; split <;> split <;> omega
    have k2 : y ≤ 4611686018427387903 := by rw [e2]; split <;> omega
    have k3 : n ≤ x := by rw [e1]; split <;> omega
    have k4 : a ≤ 4611686018427387903 - n → x = n + a := by intro h; rw [e1, if_neg (by omega)]
    have k5 : ¬ a ≤ 4611686018427387903 - n → x = 4611686018427387903 := by intro h; rw [e1, if_pos (by omega)]
    clear e1 e2 hx hy
    have m1 : ¬ y < x := by omega
    have m2 : ¬ 4611686018427387903 < y := by omega
    have m3 : ¬ x < n := by omega
    have l1 : -9223372036854775808 ≤ 4611686018427387903 - n := by omega
    have l2 : 4611686018427387903 - n < 9223372036854775808 := by omega
    by_cases hq : a ≤ 4611686018427387903 - n
    · have hx := k4 hq
      have l3 : -9223372036854775808 ≤ n + a := by omega
      have l4 : n + a < 9223372036854775808 := by omega
      have HX := Lib.hid hx
      clear k1 k2 k3 k4 k5 hx
      go_wp2_with (first | ((with_reducible refine (F1.out _).mono ?_); rintro _ wz ⟨rfl, hwz⟩; have hwz2 := hwz.symm; subst hwz2; clear hwz) | ((with_reducible refine (F2.out _).mono ?_); rintro _ wz ⟨rfl, hwz⟩; have hwz2 := hwz.symm; subst hwz2; clear hwz))
      go_ret
      refine ⟨?_, B2.out⟩
      first | rfl | (rw [HX.out]; simp)
    · have hx := k5 hq
      have hq2 : 4611686018427387903 - n < a := by omega
      have HX := Lib.hid hx
      clear k1 k2 k3 k4 k5 hx
      go_wp2_with (first | ((with_reducible refine (F1.out _).mono ?_); rintro _ wz ⟨rfl, hwz⟩; have hwz2 := hwz.symm; subst hwz2; clear hwz) | ((with_reducible refine (F2.out _).mono ?_); rintro _ wz ⟨rfl, hwz⟩; have hwz2 := hwz.symm; subst hwz2; clear hwz))
      go_ret
      refine ⟨?_, B2.out⟩
      first | rfl | (rw [HX.out]; simp)
end Go.Proofs.YtnfobnnbeefeeaaGreatDoor.Wi
