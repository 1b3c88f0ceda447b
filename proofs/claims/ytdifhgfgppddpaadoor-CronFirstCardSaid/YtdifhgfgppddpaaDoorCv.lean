/- CronParts' walk. -/
import Derived.Test.YtdifhgfgppddpaaDoorCu
import Derived.Test.YtdifhgfgppddpaaDoorCq
namespace Go.Proofs.YtdifhgfgppddpaaDoor
open Go Go.RowKit
set_option linter.unusedVariables false
set_option linter.unusedSimpArgs false
theorem str_app (a b : List UInt8) : str a ++ str b = str (a ++ b) := by simp [str, ByteArray.ext_iff]
theorem parse_two (l : List UInt8) : (∃ D, parseM l = (0, D)) ∨ ∃ v, v ≠ 0 ∧ (parseM l).1 = v := by
  by_cases h : (parseM l).1 = 0
  · exact Or.inl ⟨(parseM l).2, by rw [← h]⟩
  · exact Or.inr ⟨_, h, rfl⟩
set_option maxHeartbeats 16000000 in
set_option maxRecDepth 100000 in
theorem cronParts_any (a b : List UInt8) (t : Int) (ht : -9223372036854775808 ≤ t ∧ t ≤ 9223372036854775807) (ha : a.length ≤ 9223372036854775807) (hb : b.length ≤ 9223372036854775807) (w : World) (hT : CT w) :
    Calls Tryd.prog 9 #[.string (str a), .string (str b), .int .i64 t] w fun e w' => e = .returned (.bool true) ∧ Below w.heap.size w w' := by
  have FA := Lib.hid (finds_any w hT)
  have HT := Lib.hid hT
  have hsa := str_size a
  have hsb := str_size b
  obtain ⟨SA, hSA⟩ : ∃ SA, SA = str a := ⟨_, rfl⟩
  obtain ⟨SB, hSB⟩ : ∃ SB, SB = str b := ⟨_, rfl⟩
  rw [← hSA] at hsa ⊢
  rw [← hSB] at hsb ⊢
  clear hT
  by_cases hbad : (30 < a.length ∨ 30 < b.length) ∨ (t < 0 ∨ 2147483648 < t)
  · have main : ∀ (b1 b2 b3 : Bool), True := fun _ _ _ => trivial
    have i1 : (30 : Int) < (SA.size : Int) ∨ ¬ (30 : Int) < (SA.size : Int) := by omega
    have i2 : (30 : Int) < (SB.size : Int) ∨ ¬ (30 : Int) < (SB.size : Int) := by omega
    have i3 : t < 0 ∨ ¬ t < 0 := by omega
    have hbad' : (30 : Int) < (SA.size : Int) ∨ (30 : Int) < (SB.size : Int) ∨ t < 0 ∨ (2147483648 : Int) < t := by omega
    clear hSA hSB hbad main hsa hsb ha hb
    rcases i1 with j1 | j1
    · go_enter Tryd.func9, Tryd.ntmps9
      go_wp2_with fail
      refine FA.out.mono ?_
      rintro e w1 ⟨rfl, hb1⟩
      have HB1 := Lib.hid hb1
      clear hb1
      go_wp2_with fail
      go_ret
      exact ⟨rfl, HB1.out⟩
    · rcases i2 with j2 | j2
      · go_enter Tryd.func9, Tryd.ntmps9
        go_wp2_with fail
        refine FA.out.mono ?_
        rintro e w1 ⟨rfl, hb1⟩
        have HB1 := Lib.hid hb1
        clear hb1
        go_wp2_with fail
        go_ret
        exact ⟨rfl, HB1.out⟩
      · rcases i3 with j3 | j3
        · go_enter Tryd.func9, Tryd.ntmps9
          go_wp2_with fail
          refine FA.out.mono ?_
          rintro e w1 ⟨rfl, hb1⟩
          have HB1 := Lib.hid hb1
          clear hb1
          go_wp2_with fail
          go_ret
          exact ⟨rfl, HB1.out⟩
        · have j4 : (2147483648 : Int) < t := by omega
          go_enter Tryd.func9, Tryd.ntmps9
          go_wp2_with fail
          refine FA.out.mono ?_
          rintro e w1 ⟨rfl, hb1⟩
          have HB1 := Lib.hid hb1
          clear hb1
          go_wp2_with fail
          go_ret
          exact ⟨rfl, HB1.out⟩
  have a30 : a.length ≤ 30 := by omega
  have b30 : b.length ≤ 30 := by omega
  obtain ⟨n, rfl⟩ : ∃ n : Nat, t = (n : Int) := ⟨t.toNat, by omega⟩
  have j1 : ¬ (30 : Int) < (SA.size : Int) := by omega
  have j2 : ¬ (30 : Int) < (SB.size : Int) := by omega
  have j3 : ¬ (n : Int) < 0 := by omega
  have j4 : ¬ (2147483648 : Int) < (n : Int) := by omega
  have hnb : n ≤ 2147483648 := by omega
  have D0 := Lib.hid (fun W (h : CT W) => show Calls Tryd.prog 13 #[.int .i64 (n : Int)] W fun e w' => e = .returned (.tuple #[.agg (dateN n).list.toArray, .int .i64 0]) ∧ Below W.heap.size W w' from by
    have hc := dateOf_any (n : Int) (by omega) W h
    rw [show dateL (n : Int) = (dateN n).list by unfold dateL; rw [if_neg (by omega), Int.toNat_natCast], show dateE (n : Int) = 0 by unfold dateE; rw [if_neg (by omega)]] at hc
    exact hc)
  have HSM := Lib.hid (date_small n)
  obtain ⟨x, hx⟩ : ∃ x, x = dateN n := ⟨_, rfl⟩
  rw [← hx] at D0 HSM
  have SZX := Lib.hid (show (Tryd.prog.info? 32).map (·.size) = some x.list.toArray.size from by show _ = some 6; kernel_rfl)
  have S66 := Lib.hid (show 6 = x.list.toArray.size from rfl)
  have SO := Lib.hid (DateD.one x)
  have sT : str tailL = ⟨#[32, 42, 32, 42, 32, 42, 32, 42]⟩ := rfl
  have sC : str [44] = ⟨#[44]⟩ := rfl
  have eA : str (a ++ tailL) = SA ++ ⟨#[32, 42, 32, 42, 32, 42, 32, 42]⟩ := by rw [← str_app, sT, hSA]
  have eB : str (b ++ tailL) = SB ++ ⟨#[32, 42, 32, 42, 32, 42, 32, 42]⟩ := by rw [← str_app, sT, hSB]
  have eC : str (a ++ 44 :: b ++ tailL) = SA ++ ⟨#[44]⟩ ++ SB ++ ⟨#[32, 42, 32, 42, 32, 42, 32, 42]⟩ := by
    rw [← sT, ← sC, hSA, hSB, str_app, str_app, str_app]
    exact congrArg str (by simp)
  have lA : (a ++ tailL).length < 4294967281 := by simp [tailL]; omega
  have lB : (b ++ tailL).length < 4294967281 := by simp [tailL]; omega
  have lC : (a ++ 44 :: b ++ tailL).length < 4294967281 := by simp [tailL]; omega
  have m1 : ¬ maxLen < SA.size + 8 := by unfold maxLen; omega
  have m2 : ¬ maxLen < SB.size + 8 := by unfold maxLen; omega
  have m3 : ¬ maxLen < SA.size + 1 := by unfold maxLen; omega
  have z1 : (SA ++ (⟨#[44]⟩ : ByteArray)).size = SA.size + 1 := by rw [← sC, hSA, str_app, str_size, str_size]; simp
  have z2 : (SA ++ (⟨#[44]⟩ : ByteArray) ++ SB).size = SA.size + 1 + SB.size := by rw [← sC, hSA, hSB, str_app, str_app, str_size, str_size, str_size]; simp; omega
  have m4 : ¬ maxLen < SA.size + 1 + SB.size := by unfold maxLen; omega
  have m5 : ¬ maxLen < SA.size + 1 + SB.size + 8 := by unfold maxLen; omega
  have PA := Lib.hid (fun W (h : CT W) D (hD : parseM (a ++ tailL) = (0, D)) => by have := parse_ok hD lA W h; rw [eA] at this; exact this)
  have PB := Lib.hid (fun W (h : CT W) D (hD : parseM (b ++ tailL) = (0, D)) => by have := parse_ok hD lB W h; rw [eB] at this; exact this)
  have PC := Lib.hid (fun W (h : CT W) D (hD : parseM (a ++ 44 :: b ++ tailL) = (0, D)) => by have := parse_ok hD lC W h; rw [eC] at this; exact this)
  have NA := Lib.hid (fun W (h : CT W) (v : Int) (h0 : v ≠ 0) (hD : (parseM (a ++ tailL)).1 = v) => by have := parse_bad hD h0 lA W h; rw [eA] at this; exact this)
  have NB := Lib.hid (fun W (h : CT W) (v : Int) (h0 : v ≠ 0) (hD : (parseM (b ++ tailL)).1 = v) => by have := parse_bad hD h0 lB W h; rw [eB] at this; exact this)
  have NC := Lib.hid (fun W (h : CT W) (v : Int) (h0 : v ≠ 0) (hD : (parseM (a ++ 44 :: b ++ tailL)).1 = v) => by have := parse_bad hD h0 lC W h; rw [eC] at this; exact this)
  have TA := Lib.hid (parse_two (a ++ tailL))
  have TB := Lib.hid (parse_two (b ++ tailL))
  have TC := Lib.hid (parse_two (a ++ 44 :: b ++ tailL))
  have BOTH := Lib.hid (fun Da Db h1 h2 => parse_both (Da := Da) (Db := Db) a30 b30 h1 h2)
  have FX := Lib.hid (fun (La Lb : List Nat) sa sb sc => fits_both La Lb sa sb sc x)
  clear hx hbad hSA hSB eA eB eC lA lB lC sT sC
  go_enter Tryd.func9, Tryd.ntmps9
  go_wp2_with fail
  refine FA.out.mono ?_
  rintro e w1 ⟨rfl, hb1⟩
  have HB1 := Lib.hid hb1
  clear hb1
  go_wp2_with fail
  rcases TA.out with ⟨Da, hA⟩ | ⟨va, va0, hA⟩
  · refine (PA.out w1 (HT.out.below HB1.out (Nat.le_refl _)) Da hA).mono ?_
    rintro e w2 ⟨hb, ga, rfl, hg, hs⟩
    have HB2 := Lib.hid (HB1.out.trans (hb.mono HB1.out.size))
    have SA2 := Lib.hid hs
    clear hb hg hs
    go_wp2_with fail
    rcases TB.out with ⟨Db, hB⟩ | ⟨vb, vb0, hB⟩
    · refine (PB.out w2 (HT.out.below HB2.out (Nat.le_refl _)) Db hB).mono ?_
      rintro e w3 ⟨hb, gb, rfl, hg, hs⟩
      have HB3 := Lib.hid (HB2.out.trans (hb.mono HB2.out.size))
      have SB3 := Lib.hid hs
      have SA3 := Lib.hid (SA2.out.below hb)
      clear hb hg hs
      go_wp2_with fail
      obtain ⟨La, Lb, sa, sb, sc, eDa, eDb, hC⟩ := BOTH.out Da Db hA hB
      subst eDa eDb
      refine (PC.out w3 (HT.out.below HB3.out (Nat.le_refl _)) _ hC).mono ?_
      rintro e w4 ⟨hb, gc, rfl, hg, hs⟩
      have HB4 := Lib.hid (HB3.out.trans (hb.mono HB3.out.size))
      have SC4 := Lib.hid hs
      have SA4 := Lib.hid (SA3.out.below hb)
      have SB4 := Lib.hid (SB3.out.below hb)
      clear hb hg hs
      go_wp2_with fail
      refine (D0.out _ (HT.out.below HB4.out (Nat.le_refl _))).mono ?_
      rintro e w5 ⟨rfl, hb5⟩
      have HB5 := Lib.hid (HB4.out.trans (hb5.mono HB4.out.size))
      have SA5 := Lib.hid (SA4.out.below hb5)
      have SB5 := Lib.hid (SB4.out.below hb5)
      have SC5 := Lib.hid (SC4.out.below hb5)
      obtain ⟨w6, hw6⟩ : ∃ w6, w6 = w5.alloc (.cells x.list.toArray 32) := ⟨_, rfl⟩
      obtain ⟨k, hk⟩ : ∃ k, k = w5.heap.size := ⟨_, rfl⟩
      have hb6 : Below w5.heap.size w5 w6 := by rw [hw6]; exact (Below.refl _ _).alloc (Nat.le_refl _) _
      have nk : w6.heap[k]? = some (.cells x.list.toArray 32 (0, 0)) := by rw [hw6, hk]; exact heap_alloc_new _ _
      have HB6 := Lib.hid (HB5.out.trans (hb6.mono HB5.out.size))
      have SA6 := Lib.hid (SA5.out.below hb6)
      have SB6 := Lib.hid (SB5.out.below hb6)
      have SC6 := Lib.hid (SC5.out.below hb6)
      have SZL := Lib.hid (show (Tryd.prog.info? 32).map (·.size) = some x.list.length by rw [SZX.out, List.size_toArray])
      have KD := Lib.hid (show ∀ W : World, Below w6.heap.size w6 W → ∀ (j : Nat) v, x.list[j]? = some v → W.cell? ((⟨k, 0, none⟩ : Addr).add j) = some v from fun W hW j v hj => by
        rw [Addr.add_mid, Nat.zero_add, cell_of_rowW W k j _ _ _ ((hW.block k (lt_of_rowW nk)).trans nk)]
        simpa using hj)
      have CA := Lib.hid (fun W (hW : Below w6.heap.size w6 W) => fits_any ga _ _ x HSM.out W (SA6.out.below hW))
      have CB := Lib.hid (fun W (hW : Below w6.heap.size w6 W) => fits_any gb _ _ x HSM.out W (SB6.out.below hW))
      have CC := Lib.hid (fun W (hW : Below w6.heap.size w6 W) => fits_any gc _ _ x HSM.out W (SC6.out.below hW))
      rw [FX.out La Lb sa sb sc] at CC
      obtain ⟨fa, hfa⟩ : ∃ fa, fa = fitsN ((La, sa) :: starT) x := ⟨_, rfl⟩
      obtain ⟨fb, hfb⟩ : ∃ fb, fb = fitsN ((Lb, sb) :: starT) x := ⟨_, rfl⟩
      rw [← hfa] at CA CC
      rw [← hfb] at CB CC
      have HW6 := Lib.hid hw6
      have HK := Lib.hid hk
      clear hb5 hw6 hk hb6 nk hfa hfb SA4 SB4 SC4 SA5 SB5 SC5 SA6 SB6 SC6
      go_upto_region 11 with (with_reducible show wpList _ _ _ _ _ _; refine wpList_store_newW rfl 32 (.tmp 13) (.tmp 76) rfl 32 _ x.list.toArray rfl rfl SZX.out (by with_unfolding_all exact S66.out) SO.out ?_; rw [← HW6.out, ← HK.out])
      cases fa
      · cases fb
        · refine wp_region_quiet_in (fun w' => Below w6.heap.size w6 w') (by kernel_rfl) (by kernel_rfl) (below_drewN (Below.refl w6.heap.size w6) 1) ?_
          refine wpQuiet_runG (v := (.int .i64 0)) (by kernel_rfl) (fun w' hC => by rfl) ?_
          simp only [Act.put, List.setIfInBounds_toArray, List.set_cons_zero, List.set_cons_succ, List.getElem_toArray, List.getElem_cons_zero, List.getElem_cons_succ]
          refine wpQuiet_runG (v := (.bool true)) (by kernel_rfl) (fun w' hC => by rfl) ?_
          simp only [Act.put, List.setIfInBounds_toArray, List.set_cons_zero, List.set_cons_succ, List.getElem_toArray, List.getElem_cons_zero, List.getElem_cons_succ]
          refine wpQuiet_runG (v := (.bool true)) (by kernel_rfl) (fun w' hC => by rfl) ?_
          simp only [Act.put, List.setIfInBounds_toArray, List.set_cons_zero, List.set_cons_succ, List.getElem_toArray, List.getElem_cons_zero, List.getElem_cons_succ]
          refine wpQuiet_runG (v := (.pointer (some ⟨gc, 0, none⟩))) (by kernel_rfl) (fun w' hC => by rfl) ?_
          simp only [Act.put, List.setIfInBounds_toArray, List.set_cons_zero, List.set_cons_succ, List.getElem_toArray, List.getElem_cons_zero, List.getElem_cons_succ]
          refine wpQuiet_loadG (by kernel_rfl) 32 (.tmp 13) rfl ⟨k, 0, none⟩ rfl x.list _ (fun w' hC => KD.out w' hC) Tryd.underlying32 rfl SZL.out ?_
          simp only [Act.put, List.setIfInBounds_toArray, List.set_cons_zero, List.set_cons_succ, List.getElem_toArray, List.getElem_cons_zero, List.getElem_cons_succ]
          refine wpQuiet_callG (f := 14) (xs := #[.tmp 81, .tmp 82]) #[.pointer (some ⟨gc, 0, none⟩), .agg x.list.toArray] (.bool false) (by kernel_rfl) rfl Tryd.func14 (by kernel_rfl) (by kernel_rfl) (by simp [Act.eval]) (fun W hW => (CC.out W hW).mono fun e w' h => ⟨h.1, Below.trans hW (h.2.mono hW.size)⟩) ?_
          simp only [Act.put, List.setIfInBounds_toArray, List.set_cons_zero, List.set_cons_succ, List.getElem_toArray, List.getElem_cons_zero, List.getElem_cons_succ]
          refine wpQuiet_runG (v := (.pointer (some ⟨ga, 0, none⟩))) (by kernel_rfl) (fun w' hC => by rfl) ?_
          simp only [Act.put, List.setIfInBounds_toArray, List.set_cons_zero, List.set_cons_succ, List.getElem_toArray, List.getElem_cons_zero, List.getElem_cons_succ]
          refine wpQuiet_loadG (by kernel_rfl) 32 (.tmp 13) rfl ⟨k, 0, none⟩ rfl x.list _ (fun w' hC => KD.out w' hC) Tryd.underlying32 rfl SZL.out ?_
          simp only [Act.put, List.setIfInBounds_toArray, List.set_cons_zero, List.set_cons_succ, List.getElem_toArray, List.getElem_cons_zero, List.getElem_cons_succ]
          refine wpQuiet_callG (f := 14) (xs := #[.tmp 84, .tmp 85]) #[.pointer (some ⟨ga, 0, none⟩), .agg x.list.toArray] (.bool false) (by kernel_rfl) rfl Tryd.func14 (by kernel_rfl) (by kernel_rfl) (by simp [Act.eval]) (fun W hW => (CA.out W hW).mono fun e w' h => ⟨h.1, Below.trans hW (h.2.mono hW.size)⟩) ?_
          simp only [Act.put, List.setIfInBounds_toArray, List.set_cons_zero, List.set_cons_succ, List.getElem_toArray, List.getElem_cons_zero, List.getElem_cons_succ]
          refine wpQuiet_runG (v := (.bool false)) (by kernel_rfl) (fun w' hC => by rfl) ?_
          simp only [Act.put, List.setIfInBounds_toArray, List.set_cons_zero, List.set_cons_succ, List.getElem_toArray, List.getElem_cons_zero, List.getElem_cons_succ]
          refine wpQuiet_runG (v := (.pointer (some ⟨gb, 0, none⟩))) (by kernel_rfl) (fun w' hC => by rfl) ?_
          simp only [Act.put, List.setIfInBounds_toArray, List.set_cons_zero, List.set_cons_succ, List.getElem_toArray, List.getElem_cons_zero, List.getElem_cons_succ]
          refine wpQuiet_loadG (by kernel_rfl) 32 (.tmp 13) rfl ⟨k, 0, none⟩ rfl x.list _ (fun w' hC => KD.out w' hC) Tryd.underlying32 rfl SZL.out ?_
          simp only [Act.put, List.setIfInBounds_toArray, List.set_cons_zero, List.set_cons_succ, List.getElem_toArray, List.getElem_cons_zero, List.getElem_cons_succ]
          refine wpQuiet_callG (f := 14) (xs := #[.tmp 88, .tmp 89]) #[.pointer (some ⟨gb, 0, none⟩), .agg x.list.toArray] (.bool false) (by kernel_rfl) rfl Tryd.func14 (by kernel_rfl) (by kernel_rfl) (by simp [Act.eval]) (fun W hW => (CB.out W hW).mono fun e w' h => ⟨h.1, Below.trans hW (h.2.mono hW.size)⟩) ?_
          simp only [Act.put, List.setIfInBounds_toArray, List.set_cons_zero, List.set_cons_succ, List.getElem_toArray, List.getElem_cons_zero, List.getElem_cons_succ]
          refine wpQuiet_runG (v := (.bool false)) (by kernel_rfl) (fun w' hC => by rfl) ?_
          simp only [Act.put, List.setIfInBounds_toArray, List.set_cons_zero, List.set_cons_succ, List.getElem_toArray, List.getElem_cons_zero, List.getElem_cons_succ]
          refine wpQuiet_runG (v := (.bool true)) (by kernel_rfl) (fun w' hC => by rfl) ?_
          simp only [Act.put, List.setIfInBounds_toArray, List.set_cons_zero, List.set_cons_succ, List.getElem_toArray, List.getElem_cons_zero, List.getElem_cons_succ]
          refine wpQuiet_runG (v := (.bool true)) (by kernel_rfl) (fun w' hC => by rfl) ?_
          simp only [Act.put, List.setIfInBounds_toArray, List.set_cons_zero, List.set_cons_succ, List.getElem_toArray, List.getElem_cons_zero, List.getElem_cons_succ]
          refine wpQuiet_runG (v := (.bool true)) (by kernel_rfl) (fun w' hC => by rfl) ?_
          simp only [Act.put, List.setIfInBounds_toArray, List.set_cons_zero, List.set_cons_succ, List.getElem_toArray, List.getElem_cons_zero, List.getElem_cons_succ]
          refine wpQuiet_nil ?_
          intro w9 hC9
          go_wp2_with fail
          go_ret
          exact ⟨rfl, HB6.out.trans (hC9.mono HB6.out.size)⟩
        · refine wp_region_quiet_in (fun w' => Below w6.heap.size w6 w') (by kernel_rfl) (by kernel_rfl) (below_drewN (Below.refl w6.heap.size w6) 1) ?_
          refine wpQuiet_runG (v := (.int .i64 0)) (by kernel_rfl) (fun w' hC => by rfl) ?_
          simp only [Act.put, List.setIfInBounds_toArray, List.set_cons_zero, List.set_cons_succ, List.getElem_toArray, List.getElem_cons_zero, List.getElem_cons_succ]
          refine wpQuiet_runG (v := (.bool true)) (by kernel_rfl) (fun w' hC => by rfl) ?_
          simp only [Act.put, List.setIfInBounds_toArray, List.set_cons_zero, List.set_cons_succ, List.getElem_toArray, List.getElem_cons_zero, List.getElem_cons_succ]
          refine wpQuiet_runG (v := (.bool true)) (by kernel_rfl) (fun w' hC => by rfl) ?_
          simp only [Act.put, List.setIfInBounds_toArray, List.set_cons_zero, List.set_cons_succ, List.getElem_toArray, List.getElem_cons_zero, List.getElem_cons_succ]
          refine wpQuiet_runG (v := (.pointer (some ⟨gc, 0, none⟩))) (by kernel_rfl) (fun w' hC => by rfl) ?_
          simp only [Act.put, List.setIfInBounds_toArray, List.set_cons_zero, List.set_cons_succ, List.getElem_toArray, List.getElem_cons_zero, List.getElem_cons_succ]
          refine wpQuiet_loadG (by kernel_rfl) 32 (.tmp 13) rfl ⟨k, 0, none⟩ rfl x.list _ (fun w' hC => KD.out w' hC) Tryd.underlying32 rfl SZL.out ?_
          simp only [Act.put, List.setIfInBounds_toArray, List.set_cons_zero, List.set_cons_succ, List.getElem_toArray, List.getElem_cons_zero, List.getElem_cons_succ]
          refine wpQuiet_callG (f := 14) (xs := #[.tmp 81, .tmp 82]) #[.pointer (some ⟨gc, 0, none⟩), .agg x.list.toArray] (.bool true) (by kernel_rfl) rfl Tryd.func14 (by kernel_rfl) (by kernel_rfl) (by simp [Act.eval]) (fun W hW => (CC.out W hW).mono fun e w' h => ⟨h.1, Below.trans hW (h.2.mono hW.size)⟩) ?_
          simp only [Act.put, List.setIfInBounds_toArray, List.set_cons_zero, List.set_cons_succ, List.getElem_toArray, List.getElem_cons_zero, List.getElem_cons_succ]
          refine wpQuiet_runG (v := (.pointer (some ⟨ga, 0, none⟩))) (by kernel_rfl) (fun w' hC => by rfl) ?_
          simp only [Act.put, List.setIfInBounds_toArray, List.set_cons_zero, List.set_cons_succ, List.getElem_toArray, List.getElem_cons_zero, List.getElem_cons_succ]
          refine wpQuiet_loadG (by kernel_rfl) 32 (.tmp 13) rfl ⟨k, 0, none⟩ rfl x.list _ (fun w' hC => KD.out w' hC) Tryd.underlying32 rfl SZL.out ?_
          simp only [Act.put, List.setIfInBounds_toArray, List.set_cons_zero, List.set_cons_succ, List.getElem_toArray, List.getElem_cons_zero, List.getElem_cons_succ]
          refine wpQuiet_callG (f := 14) (xs := #[.tmp 84, .tmp 85]) #[.pointer (some ⟨ga, 0, none⟩), .agg x.list.toArray] (.bool false) (by kernel_rfl) rfl Tryd.func14 (by kernel_rfl) (by kernel_rfl) (by simp [Act.eval]) (fun W hW => (CA.out W hW).mono fun e w' h => ⟨h.1, Below.trans hW (h.2.mono hW.size)⟩) ?_
          simp only [Act.put, List.setIfInBounds_toArray, List.set_cons_zero, List.set_cons_succ, List.getElem_toArray, List.getElem_cons_zero, List.getElem_cons_succ]
          refine wpQuiet_runG (v := (.bool false)) (by kernel_rfl) (fun w' hC => by rfl) ?_
          simp only [Act.put, List.setIfInBounds_toArray, List.set_cons_zero, List.set_cons_succ, List.getElem_toArray, List.getElem_cons_zero, List.getElem_cons_succ]
          refine wpQuiet_runG (v := (.pointer (some ⟨gb, 0, none⟩))) (by kernel_rfl) (fun w' hC => by rfl) ?_
          simp only [Act.put, List.setIfInBounds_toArray, List.set_cons_zero, List.set_cons_succ, List.getElem_toArray, List.getElem_cons_zero, List.getElem_cons_succ]
          refine wpQuiet_loadG (by kernel_rfl) 32 (.tmp 13) rfl ⟨k, 0, none⟩ rfl x.list _ (fun w' hC => KD.out w' hC) Tryd.underlying32 rfl SZL.out ?_
          simp only [Act.put, List.setIfInBounds_toArray, List.set_cons_zero, List.set_cons_succ, List.getElem_toArray, List.getElem_cons_zero, List.getElem_cons_succ]
          refine wpQuiet_callG (f := 14) (xs := #[.tmp 88, .tmp 89]) #[.pointer (some ⟨gb, 0, none⟩), .agg x.list.toArray] (.bool true) (by kernel_rfl) rfl Tryd.func14 (by kernel_rfl) (by kernel_rfl) (by simp [Act.eval]) (fun W hW => (CB.out W hW).mono fun e w' h => ⟨h.1, Below.trans hW (h.2.mono hW.size)⟩) ?_
          simp only [Act.put, List.setIfInBounds_toArray, List.set_cons_zero, List.set_cons_succ, List.getElem_toArray, List.getElem_cons_zero, List.getElem_cons_succ]
          refine wpQuiet_runG (v := (.bool true)) (by kernel_rfl) (fun w' hC => by rfl) ?_
          simp only [Act.put, List.setIfInBounds_toArray, List.set_cons_zero, List.set_cons_succ, List.getElem_toArray, List.getElem_cons_zero, List.getElem_cons_succ]
          refine wpQuiet_runG (v := (.bool true)) (by kernel_rfl) (fun w' hC => by rfl) ?_
          simp only [Act.put, List.setIfInBounds_toArray, List.set_cons_zero, List.set_cons_succ, List.getElem_toArray, List.getElem_cons_zero, List.getElem_cons_succ]
          refine wpQuiet_runG (v := (.bool true)) (by kernel_rfl) (fun w' hC => by rfl) ?_
          simp only [Act.put, List.setIfInBounds_toArray, List.set_cons_zero, List.set_cons_succ, List.getElem_toArray, List.getElem_cons_zero, List.getElem_cons_succ]
          refine wpQuiet_runG (v := (.bool true)) (by kernel_rfl) (fun w' hC => by rfl) ?_
          simp only [Act.put, List.setIfInBounds_toArray, List.set_cons_zero, List.set_cons_succ, List.getElem_toArray, List.getElem_cons_zero, List.getElem_cons_succ]
          refine wpQuiet_nil ?_
          intro w9 hC9
          go_wp2_with fail
          go_ret
          exact ⟨rfl, HB6.out.trans (hC9.mono HB6.out.size)⟩
      · rw [Bool.true_or] at CC
        refine wp_region_quiet_in (fun w' => Below w6.heap.size w6 w') (by kernel_rfl) (by kernel_rfl) (below_drewN (Below.refl w6.heap.size w6) 1) ?_
        refine wpQuiet_runG (v := (.int .i64 0)) (by kernel_rfl) (fun w' hC => by rfl) ?_
        simp only [Act.put, List.setIfInBounds_toArray, List.set_cons_zero, List.set_cons_succ, List.getElem_toArray, List.getElem_cons_zero, List.getElem_cons_succ]
        refine wpQuiet_runG (v := (.bool true)) (by kernel_rfl) (fun w' hC => by rfl) ?_
        simp only [Act.put, List.setIfInBounds_toArray, List.set_cons_zero, List.set_cons_succ, List.getElem_toArray, List.getElem_cons_zero, List.getElem_cons_succ]
        refine wpQuiet_runG (v := (.bool true)) (by kernel_rfl) (fun w' hC => by rfl) ?_
        simp only [Act.put, List.setIfInBounds_toArray, List.set_cons_zero, List.set_cons_succ, List.getElem_toArray, List.getElem_cons_zero, List.getElem_cons_succ]
        refine wpQuiet_runG (v := (.pointer (some ⟨gc, 0, none⟩))) (by kernel_rfl) (fun w' hC => by rfl) ?_
        simp only [Act.put, List.setIfInBounds_toArray, List.set_cons_zero, List.set_cons_succ, List.getElem_toArray, List.getElem_cons_zero, List.getElem_cons_succ]
        refine wpQuiet_loadG (by kernel_rfl) 32 (.tmp 13) rfl ⟨k, 0, none⟩ rfl x.list _ (fun w' hC => KD.out w' hC) Tryd.underlying32 rfl SZL.out ?_
        simp only [Act.put, List.setIfInBounds_toArray, List.set_cons_zero, List.set_cons_succ, List.getElem_toArray, List.getElem_cons_zero, List.getElem_cons_succ]
        refine wpQuiet_callG (f := 14) (xs := #[.tmp 81, .tmp 82]) #[.pointer (some ⟨gc, 0, none⟩), .agg x.list.toArray] (.bool true) (by kernel_rfl) rfl Tryd.func14 (by kernel_rfl) (by kernel_rfl) (by simp [Act.eval]) (fun W hW => (CC.out W hW).mono fun e w' h => ⟨h.1, Below.trans hW (h.2.mono hW.size)⟩) ?_
        simp only [Act.put, List.setIfInBounds_toArray, List.set_cons_zero, List.set_cons_succ, List.getElem_toArray, List.getElem_cons_zero, List.getElem_cons_succ]
        refine wpQuiet_runG (v := (.pointer (some ⟨ga, 0, none⟩))) (by kernel_rfl) (fun w' hC => by rfl) ?_
        simp only [Act.put, List.setIfInBounds_toArray, List.set_cons_zero, List.set_cons_succ, List.getElem_toArray, List.getElem_cons_zero, List.getElem_cons_succ]
        refine wpQuiet_loadG (by kernel_rfl) 32 (.tmp 13) rfl ⟨k, 0, none⟩ rfl x.list _ (fun w' hC => KD.out w' hC) Tryd.underlying32 rfl SZL.out ?_
        simp only [Act.put, List.setIfInBounds_toArray, List.set_cons_zero, List.set_cons_succ, List.getElem_toArray, List.getElem_cons_zero, List.getElem_cons_succ]
        refine wpQuiet_callG (f := 14) (xs := #[.tmp 84, .tmp 85]) #[.pointer (some ⟨ga, 0, none⟩), .agg x.list.toArray] (.bool true) (by kernel_rfl) rfl Tryd.func14 (by kernel_rfl) (by kernel_rfl) (by simp [Act.eval]) (fun W hW => (CA.out W hW).mono fun e w' h => ⟨h.1, Below.trans hW (h.2.mono hW.size)⟩) ?_
        simp only [Act.put, List.setIfInBounds_toArray, List.set_cons_zero, List.set_cons_succ, List.getElem_toArray, List.getElem_cons_zero, List.getElem_cons_succ]
        refine wpQuiet_runG (v := (.bool true)) (by kernel_rfl) (fun w' hC => by rfl) ?_
        simp only [Act.put, List.setIfInBounds_toArray, List.set_cons_zero, List.set_cons_succ, List.getElem_toArray, List.getElem_cons_zero, List.getElem_cons_succ]
        refine wpQuiet_skipG (by kernel_rfl) ?_
        simp only [Act.put, List.setIfInBounds_toArray, List.set_cons_zero, List.set_cons_succ, List.getElem_toArray, List.getElem_cons_zero, List.getElem_cons_succ]
        refine wpQuiet_skipG (by kernel_rfl) ?_
        simp only [Act.put, List.setIfInBounds_toArray, List.set_cons_zero, List.set_cons_succ, List.getElem_toArray, List.getElem_cons_zero, List.getElem_cons_succ]
        refine wpQuiet_skipG (by kernel_rfl) ?_
        simp only [Act.put, List.setIfInBounds_toArray, List.set_cons_zero, List.set_cons_succ, List.getElem_toArray, List.getElem_cons_zero, List.getElem_cons_succ]
        refine wpQuiet_runG (v := (.bool true)) (by kernel_rfl) (fun w' hC => by rfl) ?_
        simp only [Act.put, List.setIfInBounds_toArray, List.set_cons_zero, List.set_cons_succ, List.getElem_toArray, List.getElem_cons_zero, List.getElem_cons_succ]
        refine wpQuiet_runG (v := (.bool true)) (by kernel_rfl) (fun w' hC => by rfl) ?_
        simp only [Act.put, List.setIfInBounds_toArray, List.set_cons_zero, List.set_cons_succ, List.getElem_toArray, List.getElem_cons_zero, List.getElem_cons_succ]
        refine wpQuiet_runG (v := (.bool true)) (by kernel_rfl) (fun w' hC => by rfl) ?_
        simp only [Act.put, List.setIfInBounds_toArray, List.set_cons_zero, List.set_cons_succ, List.getElem_toArray, List.getElem_cons_zero, List.getElem_cons_succ]
        refine wpQuiet_runG (v := (.bool true)) (by kernel_rfl) (fun w' hC => by rfl) ?_
        simp only [Act.put, List.setIfInBounds_toArray, List.set_cons_zero, List.set_cons_succ, List.getElem_toArray, List.getElem_cons_zero, List.getElem_cons_succ]
        refine wpQuiet_nil ?_
        intro w9 hC9
        go_wp2_with fail
        go_ret
        exact ⟨rfl, HB6.out.trans (hC9.mono HB6.out.size)⟩
    · refine (NB.out w2 (HT.out.below HB2.out (Nat.le_refl _)) vb vb0 hB).mono ?_
      rintro e w3 ⟨hb, rfl⟩
      have HB3 := Lib.hid (HB2.out.trans (hb.mono HB2.out.size))
      clear hb
      go_wp2_with fail
      rcases TC.out with ⟨Dc, hC⟩ | ⟨vc, vc0, hC⟩
      · refine (PC.out w3 (HT.out.below HB3.out (Nat.le_refl _)) Dc hC).mono ?_
        rintro e w4 ⟨hb, gc, rfl, hg, hs⟩
        have HB4 := Lib.hid (HB3.out.trans (hb.mono HB3.out.size))
        have SC4 := Lib.hid hs
        clear hb hg hs
        go_wp2_with fail
        go_ret
        exact ⟨rfl, HB4.out⟩
      · refine (NC.out w3 (HT.out.below HB3.out (Nat.le_refl _)) vc vc0 hC).mono ?_
        rintro e w4 ⟨hb, rfl⟩
        have HB4 := Lib.hid (HB3.out.trans (hb.mono HB3.out.size))
        clear hb
        go_wp2_with fail
        go_ret
        exact ⟨by show Ending.returned (Value.bool (vc != 0)) = Ending.returned (Value.bool true); rw [show (vc != 0) = true from bne_iff_ne.mpr vc0], HB4.out⟩
  · refine (NA.out w1 (HT.out.below HB1.out (Nat.le_refl _)) va va0 hA).mono ?_
    rintro e w2 ⟨hb, rfl⟩
    have HB2 := Lib.hid (HB1.out.trans (hb.mono HB1.out.size))
    clear hb
    go_wp2_with fail
    rcases TB.out with ⟨Db, hB⟩ | ⟨vb, vb0, hB⟩
    · refine (PB.out w2 (HT.out.below HB2.out (Nat.le_refl _)) Db hB).mono ?_
      rintro e w3 ⟨hb, gb, rfl, hg, hs⟩
      have HB3 := Lib.hid (HB2.out.trans (hb.mono HB2.out.size))
      have SB3 := Lib.hid hs
      clear hb hg hs
      go_wp2_with fail
      rcases TC.out with ⟨Dc, hC⟩ | ⟨vc, vc0, hC⟩
      · refine (PC.out w3 (HT.out.below HB3.out (Nat.le_refl _)) Dc hC).mono ?_
        rintro e w4 ⟨hb, gc, rfl, hg, hs⟩
        have HB4 := Lib.hid (HB3.out.trans (hb.mono HB3.out.size))
        have SC4 := Lib.hid hs
        clear hb hg hs
        go_wp2_with fail
        go_ret
        exact ⟨rfl, HB4.out⟩
      · refine (NC.out w3 (HT.out.below HB3.out (Nat.le_refl _)) vc vc0 hC).mono ?_
        rintro e w4 ⟨hb, rfl⟩
        have HB4 := Lib.hid (HB3.out.trans (hb.mono HB3.out.size))
        clear hb
        go_wp2_with fail
        go_ret
        exact ⟨by show Ending.returned (Value.bool (vc != 0)) = Ending.returned (Value.bool true); rw [show (vc != 0) = true from bne_iff_ne.mpr vc0], HB4.out⟩
    · refine (NB.out w2 (HT.out.below HB2.out (Nat.le_refl _)) vb vb0 hB).mono ?_
      rintro e w3 ⟨hb, rfl⟩
      have HB3 := Lib.hid (HB2.out.trans (hb.mono HB2.out.size))
      clear hb
      go_wp2_with fail
      rcases TC.out with ⟨Dc, hC⟩ | ⟨vc, vc0, hC⟩
      · refine (PC.out w3 (HT.out.below HB3.out (Nat.le_refl _)) Dc hC).mono ?_
        rintro e w4 ⟨hb, gc, rfl, hg, hs⟩
        have HB4 := Lib.hid (HB3.out.trans (hb.mono HB3.out.size))
        have SC4 := Lib.hid hs
        clear hb hg hs
        go_wp2_with fail
        go_ret
        exact ⟨rfl, HB4.out⟩
      · refine (NC.out w3 (HT.out.below HB3.out (Nat.le_refl _)) vc vc0 hC).mono ?_
        rintro e w4 ⟨hb, rfl⟩
        have HB4 := Lib.hid (HB3.out.trans (hb.mono HB3.out.size))
        clear hb
        go_wp2_with fail
        go_ret
        exact ⟨by show Ending.returned (Value.bool (vc != 0)) = Ending.returned (Value.bool true); rw [show (vc != 0) = true from bne_iff_ne.mpr vc0], HB4.out⟩
end Go.Proofs.YtdifhgfgppddpaaDoor
