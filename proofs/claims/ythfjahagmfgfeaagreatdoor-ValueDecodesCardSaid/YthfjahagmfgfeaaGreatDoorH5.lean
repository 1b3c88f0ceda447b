/- The walk of ValueDecodes; Decode's answer where there is an error. -/
import Derived.Test.YthfjahagmfgfeaaGreatDoorH4
namespace Go.Proofs.YthfjahagmfgfeaaGreatDoor.Wi
open Go Go.RowKit
set_option linter.unusedVariables false
set_option linter.unusedSimpArgs false
def DcdPost2 (w : World) (X : VT × Int) (e : Ending) (w' : World) : Prop :=
  ∃ y : VT, e = .returned (.tuple #[.agg y.cells.toArray, .int .i64 X.2]) ∧ y.nz = X.1 ∧ y.At w'.heap.size w' ∧ y.In (w.heap.size ≤ ·) ∧ Below w.heap.size w w' ∧ (X.2 ≠ 0 → y = zV)
theorem dcd_end2 {w wz : World} {g2 B : Nat} {y : VT} {X : VT × Int} (hz : X.2 ≠ 0 → y = zV) (hX : X.1 = y.nz) (hb : Below w.heap.size w wz) (hy : y.At wz.heap.size wz) (hin : y.In (B ≤ ·)) (hB : g2 < B) (hwB : w.heap.size ≤ B) (hg2 : w.heap.size ≤ g2) :
    DcdPost2 w X (.returned (.tuple #[.agg y.cells.toArray, .int .i64 X.2])) (wz.setRow g2 y.cells.toArray) := by
  obtain ⟨y', he, h1, h2, h3, h4⟩ := dcd_end hX hb hy hin hB hwB hg2
  have st : ∀ q, q ≠ g2 → (wz.setRow g2 y.cells.toArray).heap[q]? = wz.heap[q]? := fun q hq => setRow_other wz g2 q _ hq
  refine ⟨y, rfl, hX.symm, ?_, hin.imp fun q hq => Nat.le_trans hwB hq, h4, hz⟩
  exact (hy.keepT hin (fun q _ h2 => st q (by omega))).mono (by simp)
set_option maxHeartbeats 16000000 in
set_option maxRecDepth 100000 in
theorem vdecode2_any {w : World} {ao : Option Addr} {c : Nat} {xs : List UInt8} (hS : Sl w (.slice ao xs.length c) xs) (hsz : xs.length ≤ 140737488355328) :
    Calls Tryz.prog 17 #[.slice ao xs.length c] w (DcdPost2 w (dcV xs)) := by
  obtain ⟨w1, hw1⟩ : ∃ w1, w1 = w.alloc (.cells z4.toArray 24) := ⟨_, rfl⟩
  obtain ⟨g2, hg2⟩ : ∃ g, g = w.heap.size := ⟨_, rfl⟩
  have hb1 : Below w.heap.size w w1 := by rw [hw1]; exact (Below.refl _ _).alloc (Nat.le_refl _) _
  have n1 : w1.heap[g2]? = some (.cells z4.toArray 24 (0, 0)) := by rw [hw1, hg2]; exact heap_alloc_new _ _
  have RS := Lib.hid (read_sl (hS.below hb1) hsz)
  have hdc : dcV xs = (if rend xs (rdV xs 0 0).2.1 (rdV xs 0 0).2.2 = 0 then (rdV xs 0 0).1 else zV, rend xs (rdV xs 0 0).2.1 (rdV xs 0 0).2.2) := rfl
  have RV := Lib.hid (fun (W : World) (b : Nat) (r : Option Nat) (h : Rd W b r xs 0 0) => vread_any h hsz)
  obtain ⟨X, hX⟩ : ∃ X, X = dcV xs := ⟨_, rfl⟩
  rw [← hX] at hdc ⊢
  obtain ⟨V, hV⟩ : ∃ V, V = rdV xs 0 0 := ⟨_, rfl⟩
  rw [← hV] at RV hdc
  obtain ⟨v1, vk, ve⟩ := V
  dsimp only at hdc
  obtain ⟨er, her⟩ : ∃ er, er = rend xs vk ve := ⟨_, rfl⟩
  rw [← her] at hdc
  have HER := Lib.hid her
  have HDC := Lib.hid hdc
  have N1 := Lib.hid n1
  have HB1 := Lib.hid hb1
  have HW1 := Lib.hid (show w1 = w.alloc (.cells #[.int .i64 0, .int .i64 0, .string ⟨#[]⟩, .slice none 0 0] 24) from hw1)
  have HG2 := Lib.hid hg2
  obtain ⟨n, hn⟩ : ∃ n, n = xs.length := ⟨_, rfl⟩
  rw [← hn] at RS ⊢
  have HSZ := Lib.hid hsz
  clear hX hV her hdc n1 hb1 hw1 hg2 hS hn hsz
  go_enter Tryz.func17, Tryz.ntmps17
  go_upto_region 1 with fail
  rw [← HW1.out, ← HG2.out]
  go_wp2_with fail
  refine RS.out.mono ?_
  rintro q w2 ⟨b, r, rfl, hR2, hb2, hb, hr⟩
  have VR := Lib.hid (RV.out w2 b r hR2)
  have HB2 := Lib.hid hb2
  have HBb := Lib.hid hb
  have HRr := Lib.hid hr
  have HLT := Lib.hid hR2.lt
  clear hR2 hb2 hb hr RS RV
  go_wp2_with fail
  refine VR.out.mono ?_
  rintro q w3 ⟨y, rfl, hy1, hy2, hy3, hR3, hF3⟩
  dsimp only at hy1 hR3
  have hs1 := lt_of_rowK N1.out
  have hs2 := HB2.out.size
  have hg2b : g2 < b := by have := HBb.out; omega
  have hb3 : Below w1.heap.size w1 w3 := fr_new HB2.out HB2.out.size hF3 HBb.out (fun g hg => by cases hg)
  have n3 := (hb3.block g2 hs1).trans N1.out
  obtain ⟨w4, hw4⟩ : ∃ w4, w4 = w3.alloc (.cells y.cells.toArray 24) := ⟨_, rfl⟩
  obtain ⟨g5, hg5⟩ : ∃ g, g = w3.heap.size := ⟨_, rfl⟩
  have hb4 : Below w3.heap.size w3 w4 := by rw [hw4]; exact (Below.refl _ _).alloc (Nat.le_refl _) _
  have n5 : w4.heap[g5]? = some (.cells y.cells.toArray 24 (0, 0)) := by rw [hw4, hg5]; exact heap_alloc_new _ _
  have n4 := (hb4.block g2 (lt_of_rowK n3)).trans n3
  have hR4 : Rd w4 b r xs vk ve := hR3.below (B := 0) hb4
  have hat4 : y.At w4.heap.size w4 := (hy2.below hb4).mono hb4.size
  have EN := Lib.hid (end_any hR4 HSZ.out)
  rw [← HER.out] at EN
  have HB4 := Lib.hid (show Below w.heap.size w w4 from HB1.out.trans ((hb3.mono HB1.out.size).trans (hb4.mono (Nat.le_trans HB1.out.size hb3.size))))
  have HY := Lib.hid hy1
  have HIN := Lib.hid hy3
  have HAT4 := Lib.hid hat4
  have N4 := Lib.hid n4
  have K5 := Lib.hid (rowK n5)
  have HW4 := Lib.hid hw4
  have HG5 := Lib.hid hg5
  have HL := Lib.hid (show w.heap.size ≤ g2 ∧ g2 < w2.heap.size ∧ w.heap.size ≤ w2.heap.size from ⟨by have := HG2.out; omega, by omega, by have := HB1.out.size; omega⟩)
  clear hy1 hy2 hy3 hR3 hF3 hs1 hs2 hg2b hb3 n3 hw4 hg5 hb4 n5 n4 hR4 hat4
  go_upto_region 3 with (with_reducible show wpList _ _ _ _ _ _; refine wpList_store_newW rfl 24 (.tmp 5) (.tmp 10) rfl 24 _ y.cells.toArray rfl rfl (Tryz.valSize' y) (by with_unfolding_all exact VT.four y) y.cells_one ?_; rw [← HW4.out, ← HG5.out])
  go_wp2_with fail
  refine EN.out.mono ?_
  rintro q w5 ⟨rfl, nn, hw5⟩
  have HB5 := Lib.hid (show Below w.heap.size w w5 by rw [hw5]; exact below_drewG HB4.out nn)
  have HAT5 := Lib.hid (show y.At w5.heap.size w5 by rw [hw5]; exact HAT4.out.keep fun _ _ => rfl)
  have N5 := Lib.hid (show w5.heap[g2]? = some (.cells z4.toArray 24 (0, 0)) by rw [hw5]; exact N4.out)
  have K6 := Lib.hid (show ∀ (j : Nat) u, y.cells[j]? = some u → w5.cell? ((⟨g5, 0, none⟩ : Addr).add j) = some u by rw [hw5]; exact K5.out)
  clear hw5 K5 EN
  by_cases he : er = 0
  · subst he
    have hl := HL.out
    have hdc := HDC.out
    rw [if_pos rfl] at hdc
    subst hdc
    have RL := Lib.hid (dcd_end2 (fun h => absurd rfl h) (X := (v1, 0)) HY.out.symm HB5.out HAT5.out HIN.out hl.2.1 hl.2.2 hl.1)
    clear hl
    go_wp2_with (first
      | (with_reducible show wpList _ _ _ _ _ _; refine wpList_load_allW rfl 24 (.tmp 5) rfl ⟨g5,0,none⟩ rfl y.cells _ K6.out Tryz.underlying24 rfl (Tryz.valSize y) ?_)
      | (with_reducible show wpList _ _ _ _ _ _; refine wpList_store_whole rfl 24 (.tmp 2) (.tmp 17) rfl g2 24 z4.toArray y.cells.toArray rfl rfl N5.out (Tryz.valSize' y) (VT.fourZ y) y.cells_one ?_))
    refine bodyPost_ret (results_row_tmp rfl _ _ g2 24 y.cells (0, 0) _ _ rfl rfl (setRow_heap _ g2 _ _ _ _ N5.out) Tryz.underlying24 rfl (Tryz.valSize y)) rfl ?_
    exact RL.out
  · have hl := HL.out
    have hdc := HDC.out
    rw [if_neg he] at hdc
    subst hdc
    have he2 : (er != 0) = true := by simpa using he
    have RL := Lib.hid (dcd_end2 (fun _ => rfl) (X := (zV, er)) (y := zV) zV_nz.symm HB5.out (mk0_at (by decide) (by decide) (by decide)) mk0_in hl.2.1 hl.2.2 hl.1)
    obtain ⟨ZZ, hZZ⟩ : ∃ ZZ, ZZ = zV := ⟨_, rfl⟩
    rw [← hZZ] at RL
    have HZZ := Lib.hid hZZ
    have hzc : ZZ.cells.toArray = #[.int .i64 0, .int .i64 0, .string ⟨#[]⟩, .slice none 0 0] := by rw [hZZ]; rfl
    rw [hzc] at RL
    have ZS := Lib.hid (show z4.toArray.size = (#[.int .i64 0, .int .i64 0, .string ⟨#[]⟩, .slice none 0 0] : Array Value).size from rfl)
    have ON := Lib.hid (show (#[.int .i64 0, .int .i64 0, .string ⟨#[]⟩, .slice none 0 0] : Array Value).all (·.oneCell') = true by rw [← hzc]; exact ZZ.cells_one)
    have SB := Lib.hid (show (Tryz.prog.info? 24).map (·.size) = some (#[.int .i64 0, .int .i64 0, .string ⟨#[]⟩, .slice none 0 0] : Array Value).size by kernel_rfl)
    clear hl hZZ hzc
    go_wp2_with (with_reducible show wpList _ _ _ _ _ _; refine wpList_store_whole rfl 24 (.tmp 2) (.tmp 15) rfl g2 24 z4.toArray #[.int .i64 0, .int .i64 0, .string ⟨#[]⟩, .slice none 0 0] rfl rfl N5.out SB.out ZS.out ON.out ?_)
    refine bodyPost_ret (results_row_tmp rfl _ _ g2 24 [.int .i64 0, .int .i64 0, .string ⟨#[]⟩, .slice none 0 0] (0, 0) _ _ rfl rfl (setRow_heap _ g2 _ _ _ _ N5.out) Tryz.underlying24 rfl SB.out) rfl ?_
    have RL2 := RL.out
    rw [HZZ.out] at RL2
    exact RL2
theorem str_bytes (a b : List UInt8) (h : a = b) : ((str a).toList == (str b).toList) = true := by rw [h]; simp
set_option maxHeartbeats 8000000 in
set_option maxRecDepth 100000 in
theorem decodes_any (ao : Option Addr) (c : Nat) (xs : List UInt8) (w : World) (hS : Sl w (.slice ao xs.length c) xs) (hg : GB w.heap.size w) : Calls Tryz.prog 4 #[.slice ao xs.length c] w fun e w' => e = .returned (.bool true) ∧ Below w.heap.size w w' := by
  have CH := Lib.hid (holds_any w hg)
  have SL := Lib.hid (fun (W : World) (h : Below w.heap.size w W) => hS.below h)
  have G := Lib.hid hg
  obtain ⟨n, hn⟩ : ∃ n, n = xs.length := ⟨_, rfl⟩
  rw [← hn] at SL ⊢
  have HN := Lib.hid hn
  clear hS hg hn
  go_enter Tryz.func4, Tryz.ntmps4
  go_wp2_with fail
  refine CH.out.mono ?_
  rintro e w2 ⟨rfl, hb2⟩
  have HB2 := Lib.hid hb2
  clear hb2
  by_cases h2000 : (2000 : Int) < (n : Int)
  · go_wp2_with fail
    go_ret
    exact ⟨rfl, HB2.out⟩
  have h47 : n ≤ 140737488355328 := by omega
  have CD := vdecode2_any (w := w2) (ao := ao) (c := c) (xs := xs) (by have h := SL.out w2 HB2.out; rw [HN.out] at h; exact h) (by rw [← HN.out]; exact h47)
  obtain ⟨X, hX⟩ : ∃ X, X = dcV xs := ⟨_, rfl⟩
  rw [← hX, ← HN.out] at CD
  obtain ⟨Xv, Xe⟩ := X
  have HX := Lib.hid hX
  have HCD := Lib.hid CD
  clear hX CD CH
  go_wp2_with fail
  refine HCD.out.mono ?_
  rintro e w3 ⟨U, rfl, hUz, hUa, _, hb3, hUe⟩
  dsimp only at hUz hUe
  obtain ⟨w4, hw4⟩ : ∃ bx, bx = w3.alloc (.cells U.cells.toArray 24) := ⟨_, rfl⟩
  obtain ⟨g4, hg4⟩ : ∃ bx, bx = w3.heap.size := ⟨_, rfl⟩
  have bw4 : Below w3.heap.size w3 w4 := by rw [hw4]; exact (Below.refl _ _).alloc (Nat.le_refl _) _
  have nw4 : w4.heap[g4]? = some (.cells U.cells.toArray 24 (0, 0)) := by rw [hw4, hg4]; exact heap_alloc_new _ _
  have Kw4 := Lib.hid (rowK nw4)
  have Hw4 := Lib.hid hw4
  have Hg4 := Lib.hid hg4
  have Bw4 := Lib.hid bw4
  have Nw4 := Lib.hid nw4
  clear hw4 hg4 bw4 nw4
  have hb24 : Below w2.heap.size w2 w4 := hb3.trans (Bw4.out.mono hb3.size)
  have RL4 := Lib.hid (HB2.out.trans (hb24.mono HB2.out.size))
  by_cases he : Xe = 0
  · subst he
    obtain ⟨q1, q2, q3, q4⟩ := dcV_bwd HX.out.symm
    have hvE : U.vE = 0 := by rw [vE_nz (u := Xv) (by rw [hUz, q1]), q3]
    have hvb : U.vb = xs := by rw [← nz_vb, hUz, q4]
    have hUa4 : U.At w4.heap.size w4 := (hUa.below Bw4.out).mono Bw4.out.size
    have HUA := Lib.hid hUa4
    have HVE := Lib.hid hvE
    have HVB := Lib.hid hvb
    have CE := Lib.hid (vencode_any U w4.heap.size w4 hUa4 (Nat.le_refl _))
    clear hUz hUe hUa hb3 hb24 q1 q2 q3 q4 hvE hvb hUa4 HCD
    go_wp2_with (first
      | (with_reducible show wpList _ _ _ _ _ _; refine wpList_store_newW rfl 24 (.tmp 3) (.tmp 15) rfl 24 _ U.cells.toArray rfl rfl (Tryz.valSize' U) (by with_unfolding_all exact VT.four U) U.cells_one ?_; rw [← Hw4.out, ← Hg4.out])
      | (with_reducible show wpList _ _ _ _ _ _; refine wpList_load_allW rfl 24 (.tmp 3) rfl ⟨g4,0,none⟩ rfl U.cells _ Kw4.out Tryz.underlying24 rfl (Tryz.valSize U) ?_))
    refine CE.out.mono ?_
    rintro e w5 ⟨hb5, hP⟩
    rw [if_pos HVE.out, HVB.out, ← HN.out] at hP
    obtain ⟨ao5, c5, rfl, own5⟩ := hP
    have RL5 := Lib.hid (RL4.out.trans (hb5.mono RL4.out.size))
    have Kw5 := Lib.hid (rowB (v := U) Nw4.out hb5)
    have CG := good_any U w4.heap.size w5 (HUA.out.below hb5) hb5.size
    rw [HVE.out] at CG
    have HCG := Lib.hid (show Calls Tryz.prog 23 #[.agg U.cells.toArray] w5 fun e w' => e = .returned (.bool true) ∧ Below w5.heap.size w5 w' from CG)
    have OWN := Lib.hid own5
    obtain ⟨T, hT⟩ : ∃ T, T = str xs := ⟨_, rfl⟩
    have HT := Lib.hid hT
    have HRL := Lib.hid (fun (W : World) (h : Below w5.heap.size w5 W) => RL5.out.trans (h.mono RL5.out.size))
    clear CG own5 CE hT hb5
    go_wp2_with (first
      | (with_reducible show wpList _ _ _ _ _ _; refine wpList_loadWanted (by with_unfolding_all rfl) 24 (.tmp 3) rfl ⟨g4,0,none⟩ (by with_unfolding_all rfl) U.cells _ Kw5.out Tryz.underlying24 rfl (Tryz.valSize U) ?_))
    refine HCG.out.mono ?_
    rintro e w6 ⟨rfl, hb6⟩
    have RL6 := Lib.hid (HRL.out w6 hb6)
    have c1 : (convert 29 9 (.slice ao5 n c5)).run Tryz.prog w6 = .ok (.string T) w6 := by
      rw [HT.out]
      exact own_conv (own_belowK OWN.out hb6) HN.out.symm
    have c2 : (convert 29 9 (.slice ao n c)).run Tryz.prog w6 = .ok (.string T) w6 := by
      have h := SL.out w6 RL6.out
      rw [HT.out]
      exact (by rw [HN.out] at h ⊢; exact h.convert.1)
    clear hb6
    go_wp2_with fail
    go_ret
    exact ⟨rfl, RL6.out⟩
  · have hUz' := hUe he
    have he2 : (Xe != 0) = true := by simpa using he
    have f0 : w4.cell? ⟨g4, 0, none⟩ = some (.int .i64 0) := by have h := Kw4.out 0 (.int .i64 0) (by rw [hUz']; rfl); rwa [Addr.add_mid] at h
    have f1 : w4.cell? ⟨g4, 1, none⟩ = some (.int .i64 0) := by have h := Kw4.out 1 (.int .i64 0) (by rw [hUz']; rfl); rwa [Addr.add_mid] at h
    have f2 : w4.cell? ⟨g4, 2, none⟩ = some (.string ⟨#[]⟩) := by have h := Kw4.out 2 (.string ⟨#[]⟩) (by rw [hUz']; rfl); rwa [Addr.add_mid] at h
    have f3 : w4.cell? ⟨g4, 3, none⟩ = some (.slice none 0 0) := by have h := Kw4.out 3 (.slice none 0 0) (by rw [hUz']; rfl); rwa [Addr.add_mid] at h
    clear hUz' hUz hUe hUa hb3 hb24 HCD
    go_wp2_with (first
      | (with_reducible show wpList _ _ _ _ _ _; refine wpList_store_newW rfl 24 (.tmp 3) (.tmp 15) rfl 24 _ U.cells.toArray rfl rfl (Tryz.valSize' U) (by with_unfolding_all exact VT.four U) U.cells_one ?_; rw [← Hw4.out, ← Hg4.out]))
    go_ret
    exact ⟨rfl, RL4.out⟩
end Go.Proofs.YthfjahagmfgfeaaGreatDoor.Wi
