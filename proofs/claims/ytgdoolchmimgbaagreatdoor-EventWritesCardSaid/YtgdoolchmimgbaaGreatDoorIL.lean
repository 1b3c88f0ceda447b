/- The walk of EventDecodes. -/
import Derived.Test.YtgdoolchmimgbaaGreatDoorGP
namespace Go.Proofs.YtgdoolchmimgbaaGreatDoor.Wi
open Go Go.RowKit
set_option linter.unusedVariables false
set_option linter.unusedSimpArgs false
theorem zV_fine : Fine zV := fine zV_vE
theorem evE_nz {x y : Ev} (h : x.nz = y.nz) : x.vE = y.vE := by rw [← Ev.nz_vE x, h, Ev.nz_vE]
theorem evB_nz {x y : Ev} (h : x.nz = y.nz) : x.eb = y.eb := by rw [← Ev.nz_eb x, h, Ev.nz_eb]
theorem ev_val_nz {x y : Ev} (h : x.nz = y.nz) : x.val.nz = y.val.nz := by have := congrArg Ev.val h; exact this
theorem dcE_bad {xs : List UInt8} {X : Ev × Int} (h : X = dcE xs) (he : X.2 ≠ 0) : X.1 = zE := by
  subst h
  unfold dcE at he ⊢
  dsimp only at he ⊢
  rw [if_neg he]
set_option maxHeartbeats 8000000 in
set_option maxRecDepth 100000 in
theorem edecodes_any (ao : Option Addr) (c : Nat) (xs : List UInt8) (w : World) (hS : Sl w (.slice ao xs.length c) xs) (hg : EB w.heap.size w) : Calls Tryz.prog 4 #[.slice ao xs.length c] w fun e w' => e = .returned (.bool true) ∧ Below w.heap.size w w' := by
  have CH := Lib.hid (tells_any w hg)
  have SL := Lib.hid (fun (W : World) (h : Below w.heap.size w W) => hS.below h)
  have G := Lib.hid hg
  obtain ⟨n, hn⟩ : ∃ n, n = xs.length := ⟨_, rfl⟩
  rw [← hn] at SL ⊢
  have HN := Lib.hid hn
  clear hS hg hn
  go_enter Tryz.func4, Tryz.ntmps4
  go_wp2_with fail
  refine CH.out.mono ?_
  rintro e w2 ⟨rfl, hb2⟩
  have HB2 := Lib.hid hb2
  clear hb2
  by_cases h2000 : (1000 : Int) < (n : Int)
  · go_wp2_with fail
    go_ret
    exact ⟨rfl, HB2.out⟩
  have h47 : n ≤ 140737488355328 := by omega
  have CD := edecode_any (w := w2) (ao := ao) (c := c) (xs := xs) (by have h := SL.out w2 HB2.out; rw [HN.out] at h; exact h) (by rw [← HN.out]; exact h47) ((G.out.on HB2.out).base HB2.out.size)
  obtain ⟨X, hX⟩ : ∃ X, X = dcE xs := ⟨_, rfl⟩
  rw [← hX, ← HN.out] at CD
  have hbad := dcE_bad hX
  obtain ⟨Xv, Xe⟩ := X
  have HX := Lib.hid hX
  have HCD := Lib.hid CD
  have HBAD := Lib.hid hbad
  clear hX CD CH hbad
  go_wp2_with fail
  refine HCD.out.mono ?_
  rintro e w3 ⟨U, rfl, hUz, hUa, _, hb3⟩
  dsimp only at hUz
  obtain ⟨w4, hw4⟩ : ∃ bx, bx = w3.alloc (.cells U.cells.toArray 26) := ⟨_, rfl⟩
  obtain ⟨g4, hg4⟩ : ∃ bx, bx = w3.heap.size := ⟨_, rfl⟩
  have bw4 : Below w3.heap.size w3 w4 := by rw [hw4]; exact (Below.refl _ _).alloc (Nat.le_refl _) _
  have nw4 : w4.heap[g4]? = some (.cells U.cells.toArray 26 (0, 0)) := by rw [hw4, hg4]; exact heap_alloc_new _ _
  have Kw4 := Lib.hid (rowE nw4)
  have Cw4 := Lib.hid (evC nw4)
  have Hw4 := Lib.hid hw4
  have Hg4 := Lib.hid hg4
  have Bw4 := Lib.hid bw4
  have Nw4 := Lib.hid nw4
  clear hw4 hg4 bw4 nw4
  have hb24 : Below w2.heap.size w2 w4 := hb3.trans (Bw4.out.mono hb3.size)
  have RL4 := Lib.hid (HB2.out.trans (hb24.mono HB2.out.size))
  have hUa4 : U.At w4.heap.size w4 := (hUa.below Bw4.out).mono Bw4.out.size
  by_cases he : Xe = 0
  · subst he
    obtain ⟨q1, q2, q3, q4⟩ := dcE_bwd HX.out.symm
    have hUz2 : U.nz = Xv.nz := by rw [hUz, q1]
    have hvE : U.vE = 0 := by rw [evE_nz hUz2, q3]
    have hvb : U.eb = xs := by rw [evB_nz hUz2, q4]
    have HUA := Lib.hid hUa4
    have HVE := Lib.hid hvE
    have HVB := Lib.hid hvb
    have CE := Lib.hid (eencode_any U w4.heap.size w4 hUa4 (Nat.le_refl _) ((G.out.on RL4.out).base RL4.out.size))
    clear hUz hUz2 hUa hb3 hb24 q1 q2 q3 q4 hvE hvb hUa4 HCD
    go_wp2_with (first
      | (with_reducible show wpList _ _ _ _ _ _; refine wpList_store_newW rfl 26 (.tmp 3) (.tmp 15) rfl 26 _ U.cells.toArray rfl rfl (Tryz.evSize' U) (by with_unfolding_all exact Ev.eleven U) U.cells_one ?_; rw [← Hw4.out, ← Hg4.out])
      | (with_reducible show wpList _ _ _ _ _ _; refine wpList_load_allW rfl 26 (.tmp 3) rfl ⟨g4,0,none⟩ rfl U.cells _ Kw4.out Tryz.underlying26 rfl (Tryz.evSize U) ?_))
    refine CE.out.mono ?_
    rintro e w5 ⟨hb5, hP⟩
    rw [if_pos HVE.out, HVB.out, ← HN.out] at hP
    obtain ⟨ao5, c5, rfl, own5⟩ := hP
    have RL5 := Lib.hid (RL4.out.trans (hb5.mono RL4.out.size))
    have Kw5 := Lib.hid (rowEB Nw4.out hb5)
    have CG := rcheckE_any U w4.heap.size w5 (HUA.out.below hb5) hb5.size
    rw [HVE.out] at CG
    have HCG := Lib.hid CG
    have OWN := Lib.hid own5
    obtain ⟨T, hT⟩ : ∃ T, T = str xs := ⟨_, rfl⟩
    have HT := Lib.hid hT
    have HRL := Lib.hid (fun (W : World) (h : Below w5.heap.size w5 W) => RL5.out.trans (h.mono RL5.out.size))
    clear CG own5 CE hT hb5
    go_wp2_with (first
      | (with_reducible show wpList _ _ _ _ _ _; refine wpList_loadWanted (by with_unfolding_all rfl) 26 (.tmp 3) rfl ⟨g4,0,none⟩ (by with_unfolding_all rfl) U.cells _ Kw5.out Tryz.underlying26 rfl (Tryz.evSize U) ?_))
    refine HCG.out.mono ?_
    rintro e w6 ⟨rfl, hb6⟩
    have RL6 := Lib.hid (HRL.out w6 hb6)
    have c1 : (convert 30 9 (.slice ao5 n c5)).run Tryz.prog w6 = .ok (.string T) w6 := by
      rw [HT.out]
      exact own_conv (own_belowK OWN.out hb6) HN.out.symm
    have c2 : (convert 30 9 (.slice ao n c)).run Tryz.prog w6 = .ok (.string T) w6 := by
      have h := SL.out w6 RL6.out
      rw [HT.out]
      exact (by rw [HN.out] at h ⊢; exact h.convert.1)
    clear hb6
    go_wp2_with fail
    go_ret
    exact ⟨rfl, RL6.out⟩
  · have hXv : Xv = zE := HBAD.out he
    have he2 : (Xe != 0) = true := by simpa using he
    have hUz2 : U.nz = zE.nz := by rw [hUz, hXv, zE_nz]
    have SM := Lib.hid (show Calls Tryz.prog 19 #[.agg U.cells.toArray, .agg #[.int .i64 0, .int .i64 0, .int .i64 0, .int .i64 0, .int .i64 0, .string ⟨#[]⟩, .string ⟨#[]⟩, .int .i64 0, .int .i64 0, .string ⟨#[]⟩, .slice none 0 0]] w4 fun e w' => e = .returned (.bool true) ∧ Below w4.heap.size w4 w' from by
      have h1 := esame_any U zE (by rw [← nz_dpr, ev_val_nz hUz2, nz_dpr]; exact zV_fine.dpr) w4.heap.size w4 hUa4 (zE_at _ _) (Nat.le_refl _)
      rw [(Ev.same_nz (by rw [← nz_kin, ev_val_nz hUz2, nz_kin]; exact zV_fine.kin)).2 hUz2] at h1
      exact h1)
    clear hXv hUz hUz2 hUa hb3 hb24 hUa4 HCD
    go_wp2_with (first
      | (with_reducible show wpList _ _ _ _ _ _; refine wpList_store_newW rfl 26 (.tmp 3) (.tmp 15) rfl 26 _ U.cells.toArray rfl rfl (Tryz.evSize' U) (by with_unfolding_all exact Ev.eleven U) U.cells_one ?_; rw [← Hw4.out, ← Hg4.out])
      | (with_reducible show wpList _ _ _ _ _ _; refine wpList_load_allW rfl 26 (.tmp 3) rfl ⟨g4,0,none⟩ rfl U.cells _ Kw4.out Tryz.underlying26 rfl (Tryz.evSize U) ?_))
    refine SM.out.mono ?_
    rintro e w5 ⟨rfl, hb5⟩
    have RL5 := Lib.hid (RL4.out.trans (hb5.mono RL4.out.size))
    clear hb5
    go_wp2_with fail
    go_ret
    exact ⟨rfl, RL5.out⟩
end Go.Proofs.YtgdoolchmimgbaaGreatDoor.Wi
