/- wants: the head of the statements of commands. -/
import Derived.Test.YtnfobnnbeefeeaaGreatDoorGU
import Derived.Test.YtnfobnnbeefeeaaGreatDoorGV
import Derived.Test.YtnfobnnbeefeeaaGreatDoorGW
import Derived.Test.YtnfobnnbeefeeaaGreatDoorGO
import Derived.Test.YtnfobnnbeefeeaaGreatDoorGR
namespace Go.Proofs.YtnfobnnbeefeeaaGreatDoor.Wi
open Go Go.RowKit
set_option linter.unusedVariables false
set_option linter.unusedSimpArgs false
def wA : Cm := ⟨1, 4, 1, 5, [], zV⟩
def wB : Cm := ⟨4, 4, 0, 0, [], zV⟩
def wL : List Cm := [wA, wB]
theorem wA_vE : wA.vE = 0 := by
  unfold Cm.vE Cm.rng
  rw [show wA.val = zV from rfl, zV_vE]
  decide
theorem wB_vE : wB.vE = 0 := by
  unfold Cm.vE Cm.rng
  rw [show wB.val = zV from rfl, zV_vE]
  decide
theorem wL_all : allE wL = 0 := by
  unfold allE wL
  rw [if_neg (by simp), allC, if_neg (by rw [wA_vE]; simp), if_neg (by rintro ⟨h, _⟩; exact absurd h (by decide)), allC, if_neg (by rw [wB_vE]; simp), if_neg (by rintro ⟨_, h⟩; exact absurd rfl h), allC]
theorem wL_num : ∀ x ∈ wL, x.Num := by
  intro x hx
  simp only [wL, List.mem_cons, List.not_mem_nil, or_false] at hx
  rcases hx with rfl | rfl
  · exact ⟨by decide, by decide, zV_num⟩
  · exact ⟨by decide, by decide, zV_num⟩
theorem wL_nz : wL.map Cm.nz = wL := by
  simp only [wL, List.map_cons, List.map_nil]
  have h1 : wA.nz = wA := by unfold Cm.nz; rw [show wA.val = zV from rfl, zV_nz]; rfl
  have h2 : wB.nz = wB := by unfold Cm.nz; rw [show wB.val = zV from rfl, zV_nz]; rfl
  rw [h1, h2]
theorem wL_cb : (cbA wL).length = 8 := by
  unfold cbA wL cbL Cm.cb
  simp only [List.map_cons, List.map_nil, List.flatten_cons, List.flatten_nil]
  rw [show wA.val = zV from rfl, show wB.val = zV from rfl]
  have e1 : enc 1 = [1] := by decide
  have e2 : enc 2 = [2] := by decide
  have e4 : enc 4 = [4] := by decide
  have e5 : enc 5 = [5] := by decide
  have h2 : zV.vb = [0] := by simp [zV, VT.vb]
  simp [wA, wB, e1, e2, e4, e5, h2, oI, cA, cB, cN, cV]
theorem wA_ln : wA.ln = [64, 52, 32, 115, 116, 97, 114, 116, 45, 116, 105, 109, 101, 114, 32, 49, 32, 53] := by
  have d1 : Lib.itoa 1 = [49] := by
    have : Lib.decDigits 1 = [49] := Lib.decDigits_one (by decide)
    simpa [Lib.itoa] using this
  have d4 : Lib.itoa 4 = [52] := by
    have : Lib.decDigits 4 = [52] := Lib.decDigits_one (by decide)
    simpa [Lib.itoa] using this
  have d5 : Lib.itoa 5 = [53] := by
    have : Lib.decDigits 5 = [53] := Lib.decDigits_one (by decide)
    simpa [Lib.itoa] using this
  unfold Cm.ln
  simp [wA, d1, d4, d5, oL, cA, cB, cN, cV, cNm, cNms]
theorem wA_at (N : Nat) (w : World) : wA.At N w := ⟨by decide, by decide, by decide, by decide, by decide, mk0_at (by decide) (by decide) (by decide)⟩
theorem wB_at (N : Nat) (w : World) : wB.At N w := ⟨by decide, by decide, by decide, by decide, by decide, mk0_at (by decide) (by decide) (by decide)⟩
theorem wA_fine : Fine wA.val := fine zV_vE
def lit18 : Array Value := #[.int .i64 1, .int .i64 4, .int .i64 1, .int .i64 5, .string ⟨#[]⟩, .int .i64 0, .int .i64 0, .string ⟨#[]⟩, .slice none 0 0, .int .i64 4, .int .i64 4, .int .i64 0, .int .i64 0, .string ⟨#[]⟩, .int .i64 0, .int .i64 0, .string ⟨#[]⟩, .slice none 0 0]
theorem wL_cells : (ccs wL).toArray = lit18 := rfl
set_option maxHeartbeats 16000000 in
set_option maxRecDepth 100000 in
theorem wants_any (w : World) (he : CB w.heap.size w) : Calls Tryz.prog 18 #[] w fun e w' => e = .returned (.bool true) ∧ Below w.heap.size w w' := by
  obtain ⟨w1, hw1⟩ : ∃ w1, w1 = w.alloc (.cells lit18 42) := ⟨_, rfl⟩
  obtain ⟨g1, hg1⟩ : ∃ g, g = w.heap.size := ⟨_, rfl⟩
  have b1 : Below w.heap.size w w1 := by rw [hw1]; exact (Below.refl _ _).alloc (Nat.le_refl _) _
  have n1 : w1.heap[g1]? = some (.cells lit18 42 (0, 0)) := by rw [hw1, hg1]; exact heap_alloc_new _ _
  have e1 : CB w1.heap.size w1 := (he.on b1).base b1.size
  have cl1 : CL w1.heap.size w1 (some ⟨g1, 0, none⟩) wL := by
    have h := CL.made (w := w) (l := wL) (fun x hx => by
      simp only [wL, List.mem_cons, List.not_mem_nil, or_false] at hx
      rcases hx with rfl | rfl
      · exact wA_at _ _
      · exact wB_at _ _) (by simp [wL])
    rw [wL_cells, ← hw1, ← hg1] at h
    exact h
  have CE := Lib.hid (cencode_any (some ⟨g1, 0, none⟩) 2 wL w1.heap.size w1 cl1 (Nat.le_refl _) e1)
  rw [show wL.length = 2 from rfl] at CE
  have HW1 := Lib.hid (show w1 = w.alloc (.cells #[.int .i64 1, .int .i64 4, .int .i64 1, .int .i64 5, .string ⟨#[]⟩, .int .i64 0, .int .i64 0, .string ⟨#[]⟩, .slice none 0 0, .int .i64 4, .int .i64 4, .int .i64 0, .int .i64 0, .string ⟨#[]⟩, .int .i64 0, .int .i64 0, .string ⟨#[]⟩, .slice none 0 0] 42) from hw1)
  have HG1 := Lib.hid hg1
  have B1 := Lib.hid b1
  have E1 := Lib.hid e1
  have CL1 := Lib.hid cl1
  have N1 := Lib.hid n1
  obtain ⟨A, hA⟩ : ∃ A, A = wA := ⟨_, rfl⟩
  obtain ⟨B, hB⟩ : ∃ B, B = wB := ⟨_, rfl⟩
  obtain ⟨n8, hn8⟩ : ∃ n, n = (cbA wL).length := ⟨_, rfl⟩
  have KA := Lib.hid (show ∀ W, Below w1.heap.size w1 W → ∀ (j : Nat) u, A.cells[j]? = some u → W.cell? ((⟨g1, 0, none⟩ : Addr).add j) = some u from fun W h j u hj => by
    obtain ⟨_, ad, e, _, hc⟩ := cl1.elem (i := 0) (x := wA) rfl
    have e := Option.some.inj e
    subst e
    rw [hA] at hj
    exact hc W (fun k hk => h.block k hk) j u hj)
  have KB := Lib.hid (show ∀ W, Below w1.heap.size w1 W → ∀ (j : Nat) u, B.cells[j]? = some u → W.cell? ((⟨g1, 9, none⟩ : Addr).add j) = some u from fun W h j u hj => by
    obtain ⟨_, ad, e, _, hc⟩ := cl1.elem (i := 1) (x := wB) rfl
    have e := Option.some.inj e
    subst e
    rw [hB] at hj
    exact hc W (fun k hk => h.block k hk) j u hj)
  have HA := Lib.hid hA
  have HB := Lib.hid hB
  have HN8 := Lib.hid hn8
  clear hw1 hg1 b1 e1 cl1 he n1 hA hB hn8
  go_enter Tryz.func18, Tryz.ntmps18
  go_upto_region 2 with fail
  rw [← HW1.out, ← HG1.out]
  go_wp2_with fail
  refine CE.out.mono ?_
  rintro e w2 ⟨hb2, hP⟩
  rw [if_pos wL_all, ← HN8.out] at hP
  obtain ⟨ao, c, rfl, own2⟩ := hP
  have hl8 : n8 = 8 := by rw [HN8.out]; exact wL_cb
  have CD := cdecode_any (w := w2) (xs := cbA wL) (ao := ao) (c := c) (by have := own_Sl own2 HN8.out.symm; exact this) (by rw [← HN8.out]; omega) ((E1.out.on hb2).base hb2.size)
  rw [dcC_fwd wL_num wL_all, wL_nz, ← HN8.out] at CD
  have HCD := Lib.hid CD
  have B2 := Lib.hid hb2
  clear CD own2 hb2 hl8
  go_wp2_with fail
  refine HCD.out.mono ?_
  rintro e w3 ⟨ao3, c3, m, rfl, hm, hcl, hb3⟩
  obtain ⟨m0, m1, rfl⟩ : ∃ a b, m = [a, b] := by
    have hl : m.length = 2 := by have := congrArg List.length hm; simpa [wL] using this
    match m, hl with
    | [a, b], _ => exact ⟨a, b, rfl⟩
  have hm0 : m0.nz = wA.nz := by
    simp only [wL, List.map_cons, List.map_nil, List.cons.injEq] at hm
    rw [hm.1]; unfold Cm.nz; rw [show wA.val = zV from rfl, zV_nz]; rfl
  obtain ⟨hm0at, ad, rfl, had, hmc⟩ := hcl.elem (i := 0) (x := m0) rfl
  have B3 := Lib.hid (B2.out.trans (hb3.mono B2.out.size))
  have KM := Lib.hid (show ∀ W, Below w3.heap.size w3 W → ∀ (j : Nat) u, m0.cells[j]? = some u → W.cell? ((ad.add (0 * 9)).add j) = some u from fun W h => hmc W (fun k hk => h.block k hk))
  have HM0 := Lib.hid hm0
  have MAT := Lib.hid hm0at
  clear hm hcl hb3 hm0 hm0at had hmc
  have E3 := Lib.hid ((E1.out.on B3.out).base B3.out.size)
  have CV := Lib.hid (cevent_any A (by rw [HA.out]; exact wA_fine.dpr) w3.heap.size w3 (by rw [HA.out]; exact wA_at _ _) (Nat.le_refl _) E3.out)
  have K3 := Lib.hid (KA.out w3 B3.out)
  go_wp2_with (first | (with_reducible show wpList _ _ _ _ _ _; refine wpList_load_allW rfl 42 (.tmp 21) rfl ⟨g1,0,none⟩ rfl A.cells _ K3.out Tryz.underlying42 rfl (Tryz.cmSize A) ?_))
  refine CV.out.mono ?_
  rintro e w4 ⟨y, rfl, hy, hb4⟩
  obtain ⟨V, hV⟩ : ∃ V : Ev, V = { A.ev 0 with val := y } := ⟨_, rfl⟩
  rw [← hV]
  obtain ⟨w5, hw5⟩ : ∃ bx, bx = w4.alloc (.cells V.cells.toArray 28) := ⟨_, rfl⟩
  obtain ⟨g6, hg6⟩ : ∃ bx, bx = w4.heap.size := ⟨_, rfl⟩
  have bw5 : Below w4.heap.size w4 w5 := by rw [hw5]; exact (Below.refl _ _).alloc (Nat.le_refl _) _
  have nw5 : w5.heap[g6]? = some (.cells V.cells.toArray 28 (0, 0)) := by rw [hw5, hg6]; exact heap_alloc_new _ _
  have Kw5 := Lib.hid (rowE nw5)
  have Cw5 := Lib.hid (evC nw5)
  have Hw5 := Lib.hid hw5
  have Hg6 := Lib.hid hg6
  have Bw5 := Lib.hid bw5
  have Nw5 := Lib.hid nw5
  clear hw5 hg6 bw5 nw5
  have hb35 : Below w3.heap.size w3 w5 := hb4.trans (Bw5.out.mono hb4.size)
  have B5 := Lib.hid hb35
  have hy5 := hy.below Bw5.out
  have vat : V.At w5.heap.size w5 := by
    rw [hV, HA.out]
    have h0 : (wA.ev 0).At w5.heap.size w5 := ⟨by decide, by decide, by decide, by decide, by decide, by decide, by decide, mk0_at (by decide) (by decide) (by decide)⟩
    exact ⟨h0.id, h0.time, h0.kind, h0.a, h0.b, h0.name, h0.text, hy5.2.1⟩
  have vk : V.kind = 11 := by rw [hV, HA.out]; rfl
  have vb : V.b = 9 := by rw [hV, HA.out]; rfl
  have fits : A.fitsE V = true := by
    have h1 : (A.ev V.id).nz = V.nz := by
      rw [hV]
      unfold Ev.nz
      dsimp only
      rw [hy5.1]
      rfl
    unfold Cm.fitsE
    dsimp only
    rw [if_neg (by rw [HA.out]; show ¬ (eK 1 = 21); decide)]
    refine (Ev.same_nz ?_).2 h1
    show A.val.Kin
    rw [HA.out]
    exact wA_fine.kin
  have KV := Lib.hid (fun (W : World) (h : Below w5.heap.size w5 W) => rowEB (x := V) Nw5.out h)
  have VC := Lib.hid (fun (W : World) (h : Below w5.heap.size w5 W) => evC ((h.block g6 (lt_of_rowK Nw5.out)).trans Nw5.out))
  have C2 := Lib.hid (show ∀ W, Below w5.heap.size w5 W → W.cell? ⟨g6, 2, none⟩ = some (.int .i64 11) ∧ W.cell? ⟨g6, 4, none⟩ = some (.int .i64 9) from fun W h => by
    have q := VC.out W h
    exact ⟨by rw [q.c2, vk], by rw [q.c4, vb]⟩)
  have KA5 := Lib.hid (fun (W : World) (h : Below w5.heap.size w5 W) => KA.out W (B3.out.trans ((hb35.trans (h.mono hb35.size)).mono B3.out.size)))
  have KB5 := Lib.hid (fun (W : World) (h : Below w5.heap.size w5 W) => KB.out W (B3.out.trans ((hb35.trans (h.mono hb35.size)).mono B3.out.size)))
  have KM5 := Lib.hid (fun (W : World) (h : Below w5.heap.size w5 W) => KM.out W (hb35.trans (h.mono hb35.size)))
  have E5 := Lib.hid ((E3.out.on hb35).base hb35.size)
  have M5 := Lib.hid ((MAT.out.below hb35).mono hb35.size)
  have SM := Lib.hid (show ∀ W, Below w5.heap.size w5 W → Calls Tryz.prog 27 #[.agg m0.cells.toArray, .agg A.cells.toArray] W fun e w' => e = .returned (.bool true) ∧ Below W.heap.size W w' from fun W h => by
    have hnz : m0.nz = A.nz := by rw [HM0.out, HA.out]
    have hv : m0.val.nz = wA.val.nz := by have := congrArg Cm.val HM0.out; exact this
    have h1 := csame_any m0 A (by rw [← nz_dpr, hv, nz_dpr]; exact wA_fine.dpr) w5.heap.size W (M5.out.below h) (by rw [HA.out]; exact wA_at _ _) h.size
    rw [(Cm.same_nz (by rw [← nz_kin, hv, nz_kin]; exact wA_fine.kin)).2 hnz] at h1
    exact h1)
  have FT := Lib.hid (show ∀ W, Below w5.heap.size w5 W → Calls Tryz.prog 37 #[.agg A.cells.toArray, .agg V.cells.toArray] W fun e w' => e = .returned (.bool true) ∧ Below W.heap.size W w' from fun W h => by
    have h1 := cfits_any A V (by rw [HA.out]; exact wA_fine) w5.heap.size W (by rw [HA.out]; exact wA_at _ _) (vat.below h) h.size ((E5.out.on h).base h.size)
    rw [fits] at h1
    exact h1)
  have MD := Lib.hid (show ∀ W, Below w5.heap.size w5 W → Calls Tryz.prog 34 #[.agg V.cells.toArray] W fun e w' => e = .returned (.bool true) ∧ Below W.heap.size W w' from fun W h => by
    have h1 := cmade_any V W ((E5.out.on h).base h.size)
    rw [vk] at h1
    exact h1)
  have EN := Lib.hid (show ∀ W, Below w5.heap.size w5 W → Calls Tryz.prog 32 #[.agg B.cells.toArray] W fun e w' => e = .returned (.bool true) ∧ Below W.heap.size W w' from fun W h => by
    have h1 := cends_any B W
    rw [HB.out] at h1 ⊢
    exact h1)
  obtain ⟨LN, hLN⟩ : ∃ S, S = str wA.ln := ⟨_, rfl⟩
  have tl : LN.toList = [64, 52, 32, 115, 116, 97, 114, 116, 45, 116, 105, 109, 101, 114, 32, 49, 32, 53] := by rw [hLN, wA_ln, ByteArray.toList_eq]; rfl
  have PR := Lib.hid (show ∀ W, Below w5.heap.size w5 W → Calls Tryz.prog 38 #[.agg A.cells.toArray] W fun e w' => e = .returned (.string LN) ∧ Below W.heap.size W w' from fun W h => by
    have h1 := cprint_any A W.heap.size W (by rw [HA.out]; exact wA_at _ _) (by rw [HA.out]; exact wA_vE) (Nat.le_refl _) ((E5.out.on h).base h.size)
    rw [hLN, ← HA.out]
    exact h1)
  obtain ⟨NM, hNM⟩ : ∃ S, S = str (cNm 6) := ⟨_, rfl⟩
  have tn : NM.toList = [97, 103, 97, 105, 110] := by rw [hNM, ByteArray.toList_eq]; rfl
  have NA := Lib.hid (show ∀ W, Below w5.heap.size w5 W → Calls Tryz.prog 39 #[.int .i64 6] W fun e w' => e = .returned (.string NM) ∧ Below W.heap.size W w' from fun W h => by
    rw [hNM]
    exact cname_any 6 (by decide) W ((E5.out.on h).base h.size))
  have SA := Lib.hid (show ∀ W, Calls Tryz.prog 41 #[.int .i64 1, .int .i64 2] W fun e w' => e = .returned (.int .i64 3) ∧ w' = W from fun W => csat_any 1 2 (by decide) (by decide) W)
  have BF := Lib.hid (fun (W : World) (h : Below w5.heap.size w5 W) => B1.out.trans ((B3.out.trans ((hb35.trans (h.mono hb35.size)).mono B3.out.size)).mono B1.out.size))
  clear hy hb4 hV hb35 hy5 vat vk vb fits hLN hNM
  have SAq := Lib.hid (fun (W : World) (_ : Below w5.heap.size w5 W) => (SA.out W).mono fun e w' h => (show e = .returned (.int .i64 3) ∧ Below W.heap.size W w' from ⟨h.1, by rw [h.2]; exact Below.refl _ _⟩))
  obtain ⟨pm, hpm⟩ : ∃ p, p = ad.add (0 * 9) := ⟨_, rfl⟩
  have KMP := Lib.hid (fun (W : World) (h : Below w5.heap.size w5 W) => show ∀ (j : Nat) u, m0.cells[j]? = some u → W.cell? (pm.add j) = some u from by rw [hpm]; exact KM5.out W h)
  have HPM := Lib.hid hpm
  clear hpm
  go_upto_region 5 with (with_reducible show wpList _ _ _ _ _ _; refine wpList_store_newW rfl 28 (.tmp 6) (.tmp 23) rfl 28 _ V.cells.toArray rfl rfl (Tryz.evSize' V) (by with_unfolding_all exact Ev.eleven V) V.cells_one ?_; rw [← Hw5.out, ← Hg6.out])
  simp only [Act.put, List.setIfInBounds_toArray, List.set_cons_zero, List.set_cons_succ, List.getElem_toArray, List.getElem_cons_zero, List.getElem_cons_succ]
  refine wp_region_quiet_in (fun w' => Below w5.heap.size w5 w') (by kernel_rfl) (by kernel_rfl) (below_drewG (Below.refl _ _) 1) ?_
  refine wpQuiet_runG (v := .int .i64 0) (by kernel_rfl) (fun w' hC => by first | rfl | go_simp) ?_
  simp only [Act.put, List.setIfInBounds_toArray, List.set_cons_zero, List.set_cons_succ, List.getElem_toArray, List.getElem_cons_zero, List.getElem_cons_succ]
  refine wpQuiet_runG (v := .bool true) (by kernel_rfl) (fun w' hC => by first | rfl | go_simp) ?_
  simp only [Act.put, List.setIfInBounds_toArray, List.set_cons_zero, List.set_cons_succ, List.getElem_toArray, List.getElem_cons_zero, List.getElem_cons_succ]
  refine wpQuiet_runG (v := .bool true) (by kernel_rfl) (fun w' hC => by first | rfl | go_simp) ?_
  simp only [Act.put, List.setIfInBounds_toArray, List.set_cons_zero, List.set_cons_succ, List.getElem_toArray, List.getElem_cons_zero, List.getElem_cons_succ]
  refine wpQuiet_runG (v := .int .i64 0) (by kernel_rfl) (fun w' hC => by first | rfl | go_simp) ?_
  simp only [Act.put, List.setIfInBounds_toArray, List.set_cons_zero, List.set_cons_succ, List.getElem_toArray, List.getElem_cons_zero, List.getElem_cons_succ]
  refine wpQuiet_runG (v := .bool true) (by kernel_rfl) (fun w' hC => by first | rfl | go_simp) ?_
  simp only [Act.put, List.setIfInBounds_toArray, List.set_cons_zero, List.set_cons_succ, List.getElem_toArray, List.getElem_cons_zero, List.getElem_cons_succ]
  refine wpQuiet_runG (v := .bool true) (by kernel_rfl) (fun w' hC => by first | rfl | go_simp) ?_
  simp only [Act.put, List.setIfInBounds_toArray, List.set_cons_zero, List.set_cons_succ, List.getElem_toArray, List.getElem_cons_zero, List.getElem_cons_succ]
  refine wpQuiet_runG (v := .bool true) (by kernel_rfl) (fun w' hC => by first | rfl | go_simp) ?_
  simp only [Act.put, List.setIfInBounds_toArray, List.set_cons_zero, List.set_cons_succ, List.getElem_toArray, List.getElem_cons_zero, List.getElem_cons_succ]
  refine wpQuiet_runG (v := .slice (some ad) 2 c3) (by kernel_rfl) (fun w' hC => by first | rfl | go_simp) ?_
  simp only [Act.put, List.setIfInBounds_toArray, List.set_cons_zero, List.set_cons_succ, List.getElem_toArray, List.getElem_cons_zero, List.getElem_cons_succ]
  refine wpQuiet_runG (v := .int .i64 2) (by kernel_rfl) (fun w' hC => by go_simp) ?_
  simp only [Act.put, List.setIfInBounds_toArray, List.set_cons_zero, List.set_cons_succ, List.getElem_toArray, List.getElem_cons_zero, List.getElem_cons_succ]
  refine wpQuiet_runG (v := .bool true) (by kernel_rfl) (fun w' hC => by first | rfl | go_simp) ?_
  simp only [Act.put, List.setIfInBounds_toArray, List.set_cons_zero, List.set_cons_succ, List.getElem_toArray, List.getElem_cons_zero, List.getElem_cons_succ]
  refine wpQuiet_runG (v := .bool true) (by kernel_rfl) (fun w' hC => by first | rfl | go_simp) ?_
  simp only [Act.put, List.setIfInBounds_toArray, List.set_cons_zero, List.set_cons_succ, List.getElem_toArray, List.getElem_cons_zero, List.getElem_cons_succ]
  refine wpQuiet_runG (v := .bool true) (by kernel_rfl) (fun w' hC => by first | rfl | go_simp) ?_
  simp only [Act.put, List.setIfInBounds_toArray, List.set_cons_zero, List.set_cons_succ, List.getElem_toArray, List.getElem_cons_zero, List.getElem_cons_succ]
  refine wpQuiet_runG (v := .slice (some ad) 2 c3) (by kernel_rfl) (fun w' hC => by first | rfl | go_simp) ?_
  simp only [Act.put, List.setIfInBounds_toArray, List.set_cons_zero, List.set_cons_succ, List.getElem_toArray, List.getElem_cons_zero, List.getElem_cons_succ]
  refine wpQuiet_runG (v := .pointer (some pm)) (by kernel_rfl) (fun w' hC => by rw [HPM.out]; first | rfl | go_simp) ?_
  simp only [Act.put, List.setIfInBounds_toArray, List.set_cons_zero, List.set_cons_succ, List.getElem_toArray, List.getElem_cons_zero, List.getElem_cons_succ]
  refine wpQuiet_loadG (by kernel_rfl) 42 (.tmp 37) rfl pm rfl m0.cells _ (fun w' hC => KMP.out w' hC) Tryz.underlying42 rfl (Tryz.cmSize m0) ?_
  simp only [Act.put, List.setIfInBounds_toArray, List.set_cons_zero, List.set_cons_succ, List.getElem_toArray, List.getElem_cons_zero, List.getElem_cons_succ]
  refine wpQuiet_runG (v := .slice (some ⟨g1, 0, none⟩) 2 2) (by kernel_rfl) (fun w' hC => by first | rfl | go_simp) ?_
  simp only [Act.put, List.setIfInBounds_toArray, List.set_cons_zero, List.set_cons_succ, List.getElem_toArray, List.getElem_cons_zero, List.getElem_cons_succ]
  refine wpQuiet_runG (v := .pointer (some ⟨g1, 0, none⟩)) (by kernel_rfl) (fun w' hC => by first | rfl | go_simp) ?_
  simp only [Act.put, List.setIfInBounds_toArray, List.set_cons_zero, List.set_cons_succ, List.getElem_toArray, List.getElem_cons_zero, List.getElem_cons_succ]
  refine wpQuiet_loadG (by kernel_rfl) 42 (.tmp 40) rfl ⟨g1,0,none⟩ rfl A.cells _ (fun w' hC => KA5.out w' hC) Tryz.underlying42 rfl (Tryz.cmSize A) ?_
  simp only [Act.put, List.setIfInBounds_toArray, List.set_cons_zero, List.set_cons_succ, List.getElem_toArray, List.getElem_cons_zero, List.getElem_cons_succ]
  refine wpQuiet_callG (f := 27) (xs := #[.tmp 38, .tmp 41]) #[.agg m0.cells.toArray, .agg A.cells.toArray] (.bool true) (by kernel_rfl) rfl Tryz.func27 (by kernel_rfl) (by kernel_rfl) (by simp [Act.eval]) (fun W hW => (SM.out W hW).mono fun e w' h => ⟨h.1, Below.trans hW (h.2.mono hW.size)⟩) ?_
  simp only [Act.put, List.setIfInBounds_toArray, List.set_cons_zero, List.set_cons_succ, List.getElem_toArray, List.getElem_cons_zero, List.getElem_cons_succ]
  refine wpQuiet_runG (v := .bool true) (by kernel_rfl) (fun w' hC => by first | rfl | go_simp) ?_
  simp only [Act.put, List.setIfInBounds_toArray, List.set_cons_zero, List.set_cons_succ, List.getElem_toArray, List.getElem_cons_zero, List.getElem_cons_succ]
  refine wpQuiet_runG (v := .bool true) (by kernel_rfl) (fun w' hC => by first | rfl | go_simp) ?_
  simp only [Act.put, List.setIfInBounds_toArray, List.set_cons_zero, List.set_cons_succ, List.getElem_toArray, List.getElem_cons_zero, List.getElem_cons_succ]
  refine wpQuiet_runG (v := .pointer (some ⟨g6, 2, none⟩)) (by kernel_rfl) (fun w' hC => by first | rfl | go_simp) ?_
  simp only [Act.put, List.setIfInBounds_toArray, List.set_cons_zero, List.set_cons_succ, List.getElem_toArray, List.getElem_cons_zero, List.getElem_cons_succ]
  refine wpQuiet_runG (v := .int .i64 11) (by kernel_rfl) (fun w' hC => by have hz := (C2.out w' hC).1; go_simp) ?_
  simp only [Act.put, List.setIfInBounds_toArray, List.set_cons_zero, List.set_cons_succ, List.getElem_toArray, List.getElem_cons_zero, List.getElem_cons_succ]
  refine wpQuiet_runG (v := .bool true) (by kernel_rfl) (fun w' hC => by first | rfl | go_simp) ?_
  simp only [Act.put, List.setIfInBounds_toArray, List.set_cons_zero, List.set_cons_succ, List.getElem_toArray, List.getElem_cons_zero, List.getElem_cons_succ]
  refine wpQuiet_runG (v := .bool true) (by kernel_rfl) (fun w' hC => by first | rfl | go_simp) ?_
  simp only [Act.put, List.setIfInBounds_toArray, List.set_cons_zero, List.set_cons_succ, List.getElem_toArray, List.getElem_cons_zero, List.getElem_cons_succ]
  refine wpQuiet_runG (v := .bool true) (by kernel_rfl) (fun w' hC => by first | rfl | go_simp) ?_
  simp only [Act.put, List.setIfInBounds_toArray, List.set_cons_zero, List.set_cons_succ, List.getElem_toArray, List.getElem_cons_zero, List.getElem_cons_succ]
  refine wpQuiet_runG (v := .pointer (some ⟨g6, 4, none⟩)) (by kernel_rfl) (fun w' hC => by first | rfl | go_simp) ?_
  simp only [Act.put, List.setIfInBounds_toArray, List.set_cons_zero, List.set_cons_succ, List.getElem_toArray, List.getElem_cons_zero, List.getElem_cons_succ]
  refine wpQuiet_runG (v := .int .i64 9) (by kernel_rfl) (fun w' hC => by have hz := (C2.out w' hC).2; go_simp) ?_
  simp only [Act.put, List.setIfInBounds_toArray, List.set_cons_zero, List.set_cons_succ, List.getElem_toArray, List.getElem_cons_zero, List.getElem_cons_succ]
  refine wpQuiet_runG (v := .bool true) (by kernel_rfl) (fun w' hC => by first | rfl | go_simp) ?_
  simp only [Act.put, List.setIfInBounds_toArray, List.set_cons_zero, List.set_cons_succ, List.getElem_toArray, List.getElem_cons_zero, List.getElem_cons_succ]
  refine wpQuiet_runG (v := .bool true) (by kernel_rfl) (fun w' hC => by first | rfl | go_simp) ?_
  simp only [Act.put, List.setIfInBounds_toArray, List.set_cons_zero, List.set_cons_succ, List.getElem_toArray, List.getElem_cons_zero, List.getElem_cons_succ]
  refine wpQuiet_runG (v := .bool true) (by kernel_rfl) (fun w' hC => by first | rfl | go_simp) ?_
  simp only [Act.put, List.setIfInBounds_toArray, List.set_cons_zero, List.set_cons_succ, List.getElem_toArray, List.getElem_cons_zero, List.getElem_cons_succ]
  refine wpQuiet_runG (v := .slice (some ⟨g1, 0, none⟩) 2 2) (by kernel_rfl) (fun w' hC => by first | rfl | go_simp) ?_
  simp only [Act.put, List.setIfInBounds_toArray, List.set_cons_zero, List.set_cons_succ, List.getElem_toArray, List.getElem_cons_zero, List.getElem_cons_succ]
  refine wpQuiet_runG (v := .pointer (some ⟨g1, 0, none⟩)) (by kernel_rfl) (fun w' hC => by first | rfl | go_simp) ?_
  simp only [Act.put, List.setIfInBounds_toArray, List.set_cons_zero, List.set_cons_succ, List.getElem_toArray, List.getElem_cons_zero, List.getElem_cons_succ]
  refine wpQuiet_loadG (by kernel_rfl) 42 (.tmp 56) rfl ⟨g1,0,none⟩ rfl A.cells _ (fun w' hC => KA5.out w' hC) Tryz.underlying42 rfl (Tryz.cmSize A) ?_
  simp only [Act.put, List.setIfInBounds_toArray, List.set_cons_zero, List.set_cons_succ, List.getElem_toArray, List.getElem_cons_zero, List.getElem_cons_succ]
  refine wpQuiet_loadG (by kernel_rfl) 28 (.tmp 6) rfl ⟨g6,0,none⟩ rfl V.cells _ (fun w' hC => KV.out w' hC) Tryz.underlying28 rfl (Tryz.evSize V) ?_
  simp only [Act.put, List.setIfInBounds_toArray, List.set_cons_zero, List.set_cons_succ, List.getElem_toArray, List.getElem_cons_zero, List.getElem_cons_succ]
  refine wpQuiet_callG (f := 37) (xs := #[.tmp 57, .tmp 58]) #[.agg A.cells.toArray, .agg V.cells.toArray] (.bool true) (by kernel_rfl) rfl Tryz.func37 (by kernel_rfl) (by kernel_rfl) (by simp [Act.eval]) (fun W hW => (FT.out W hW).mono fun e w' h => ⟨h.1, Below.trans hW (h.2.mono hW.size)⟩) ?_
  simp only [Act.put, List.setIfInBounds_toArray, List.set_cons_zero, List.set_cons_succ, List.getElem_toArray, List.getElem_cons_zero, List.getElem_cons_succ]
  refine wpQuiet_runG (v := .bool true) (by kernel_rfl) (fun w' hC => by first | rfl | go_simp) ?_
  simp only [Act.put, List.setIfInBounds_toArray, List.set_cons_zero, List.set_cons_succ, List.getElem_toArray, List.getElem_cons_zero, List.getElem_cons_succ]
  refine wpQuiet_runG (v := .bool true) (by kernel_rfl) (fun w' hC => by first | rfl | go_simp) ?_
  simp only [Act.put, List.setIfInBounds_toArray, List.set_cons_zero, List.set_cons_succ, List.getElem_toArray, List.getElem_cons_zero, List.getElem_cons_succ]
  refine wpQuiet_loadG (by kernel_rfl) 28 (.tmp 6) rfl ⟨g6,0,none⟩ rfl V.cells _ (fun w' hC => KV.out w' hC) Tryz.underlying28 rfl (Tryz.evSize V) ?_
  simp only [Act.put, List.setIfInBounds_toArray, List.set_cons_zero, List.set_cons_succ, List.getElem_toArray, List.getElem_cons_zero, List.getElem_cons_succ]
  refine wpQuiet_callG (f := 34) (xs := #[.tmp 62]) #[.agg V.cells.toArray] (.bool true) (by kernel_rfl) rfl Tryz.func34 (by kernel_rfl) (by kernel_rfl) (by simp [Act.eval]) (fun W hW => (MD.out W hW).mono fun e w' h => ⟨h.1, Below.trans hW (h.2.mono hW.size)⟩) ?_
  simp only [Act.put, List.setIfInBounds_toArray, List.set_cons_zero, List.set_cons_succ, List.getElem_toArray, List.getElem_cons_zero, List.getElem_cons_succ]
  refine wpQuiet_runG (v := .bool true) (by kernel_rfl) (fun w' hC => by first | rfl | go_simp) ?_
  simp only [Act.put, List.setIfInBounds_toArray, List.set_cons_zero, List.set_cons_succ, List.getElem_toArray, List.getElem_cons_zero, List.getElem_cons_succ]
  refine wpQuiet_runG (v := .bool true) (by kernel_rfl) (fun w' hC => by first | rfl | go_simp) ?_
  simp only [Act.put, List.setIfInBounds_toArray, List.set_cons_zero, List.set_cons_succ, List.getElem_toArray, List.getElem_cons_zero, List.getElem_cons_succ]
  refine wpQuiet_runG (v := .slice (some ⟨g1, 0, none⟩) 2 2) (by kernel_rfl) (fun w' hC => by first | rfl | go_simp) ?_
  simp only [Act.put, List.setIfInBounds_toArray, List.set_cons_zero, List.set_cons_succ, List.getElem_toArray, List.getElem_cons_zero, List.getElem_cons_succ]
  refine wpQuiet_runG (v := .pointer (some ⟨g1, 9, none⟩)) (by kernel_rfl) (fun w' hC => by first | rfl | go_simp) ?_
  simp only [Act.put, List.setIfInBounds_toArray, List.set_cons_zero, List.set_cons_succ, List.getElem_toArray, List.getElem_cons_zero, List.getElem_cons_succ]
  refine wpQuiet_loadG (by kernel_rfl) 42 (.tmp 67) rfl ⟨g1,9,none⟩ rfl B.cells _ (fun w' hC => KB5.out w' hC) Tryz.underlying42 rfl (Tryz.cmSize B) ?_
  simp only [Act.put, List.setIfInBounds_toArray, List.set_cons_zero, List.set_cons_succ, List.getElem_toArray, List.getElem_cons_zero, List.getElem_cons_succ]
  refine wpQuiet_callG (f := 32) (xs := #[.tmp 68]) #[.agg B.cells.toArray] (.bool true) (by kernel_rfl) rfl Tryz.func32 (by kernel_rfl) (by kernel_rfl) (by simp [Act.eval]) (fun W hW => (EN.out W hW).mono fun e w' h => ⟨h.1, Below.trans hW (h.2.mono hW.size)⟩) ?_
  simp only [Act.put, List.setIfInBounds_toArray, List.set_cons_zero, List.set_cons_succ, List.getElem_toArray, List.getElem_cons_zero, List.getElem_cons_succ]
  refine wpQuiet_runG (v := .bool true) (by kernel_rfl) (fun w' hC => by first | rfl | go_simp) ?_
  simp only [Act.put, List.setIfInBounds_toArray, List.set_cons_zero, List.set_cons_succ, List.getElem_toArray, List.getElem_cons_zero, List.getElem_cons_succ]
  refine wpQuiet_runG (v := .bool true) (by kernel_rfl) (fun w' hC => by first | rfl | go_simp) ?_
  simp only [Act.put, List.setIfInBounds_toArray, List.set_cons_zero, List.set_cons_succ, List.getElem_toArray, List.getElem_cons_zero, List.getElem_cons_succ]
  refine wpQuiet_runG (v := .slice (some ⟨g1, 0, none⟩) 2 2) (by kernel_rfl) (fun w' hC => by first | rfl | go_simp) ?_
  simp only [Act.put, List.setIfInBounds_toArray, List.set_cons_zero, List.set_cons_succ, List.getElem_toArray, List.getElem_cons_zero, List.getElem_cons_succ]
  refine wpQuiet_runG (v := .pointer (some ⟨g1, 0, none⟩)) (by kernel_rfl) (fun w' hC => by first | rfl | go_simp) ?_
  simp only [Act.put, List.setIfInBounds_toArray, List.set_cons_zero, List.set_cons_succ, List.getElem_toArray, List.getElem_cons_zero, List.getElem_cons_succ]
  refine wpQuiet_loadG (by kernel_rfl) 42 (.tmp 73) rfl ⟨g1,0,none⟩ rfl A.cells _ (fun w' hC => KA5.out w' hC) Tryz.underlying42 rfl (Tryz.cmSize A) ?_
  simp only [Act.put, List.setIfInBounds_toArray, List.set_cons_zero, List.set_cons_succ, List.getElem_toArray, List.getElem_cons_zero, List.getElem_cons_succ]
  refine wpQuiet_callG (f := 38) (xs := #[.tmp 74]) #[.agg A.cells.toArray] (.string LN) (by kernel_rfl) rfl Tryz.func38 (by kernel_rfl) (by kernel_rfl) (by simp [Act.eval]) (fun W hW => (PR.out W hW).mono fun e w' h => ⟨h.1, Below.trans hW (h.2.mono hW.size)⟩) ?_
  simp only [Act.put, List.setIfInBounds_toArray, List.set_cons_zero, List.set_cons_succ, List.getElem_toArray, List.getElem_cons_zero, List.getElem_cons_succ]
  refine wpQuiet_runG (v := .bool true) (by kernel_rfl) (fun w' hC => by go_simp) ?_
  simp only [Act.put, List.setIfInBounds_toArray, List.set_cons_zero, List.set_cons_succ, List.getElem_toArray, List.getElem_cons_zero, List.getElem_cons_succ]
  refine wpQuiet_runG (v := .bool true) (by kernel_rfl) (fun w' hC => by first | rfl | go_simp) ?_
  simp only [Act.put, List.setIfInBounds_toArray, List.set_cons_zero, List.set_cons_succ, List.getElem_toArray, List.getElem_cons_zero, List.getElem_cons_succ]
  refine wpQuiet_runG (v := .bool true) (by kernel_rfl) (fun w' hC => by first | rfl | go_simp) ?_
  simp only [Act.put, List.setIfInBounds_toArray, List.set_cons_zero, List.set_cons_succ, List.getElem_toArray, List.getElem_cons_zero, List.getElem_cons_succ]
  refine wpQuiet_callG (f := 39) (xs := #[.const (.int .i64 6)]) #[.int .i64 6] (.string NM) (by kernel_rfl) rfl Tryz.func39 (by kernel_rfl) (by kernel_rfl) (by simp [Act.eval]) (fun W hW => (NA.out W hW).mono fun e w' h => ⟨h.1, Below.trans hW (h.2.mono hW.size)⟩) ?_
  simp only [Act.put, List.setIfInBounds_toArray, List.set_cons_zero, List.set_cons_succ, List.getElem_toArray, List.getElem_cons_zero, List.getElem_cons_succ]
  refine wpQuiet_runG (v := .bool true) (by kernel_rfl) (fun w' hC => by go_simp) ?_
  simp only [Act.put, List.setIfInBounds_toArray, List.set_cons_zero, List.set_cons_succ, List.getElem_toArray, List.getElem_cons_zero, List.getElem_cons_succ]
  refine wpQuiet_runG (v := .bool true) (by kernel_rfl) (fun w' hC => by first | rfl | go_simp) ?_
  simp only [Act.put, List.setIfInBounds_toArray, List.set_cons_zero, List.set_cons_succ, List.getElem_toArray, List.getElem_cons_zero, List.getElem_cons_succ]
  refine wpQuiet_runG (v := .bool true) (by kernel_rfl) (fun w' hC => by first | rfl | go_simp) ?_
  simp only [Act.put, List.setIfInBounds_toArray, List.set_cons_zero, List.set_cons_succ, List.getElem_toArray, List.getElem_cons_zero, List.getElem_cons_succ]
  refine wpQuiet_callG (f := 41) (xs := #[.const (.int .i64 1), .const (.int .i64 2)]) #[.int .i64 1, .int .i64 2] (.int .i64 3) (by kernel_rfl) rfl Tryz.func41 (by kernel_rfl) (by kernel_rfl) (by simp [Act.eval]) (fun W hW => (SAq.out W hW).mono fun e w' h => ⟨h.1, Below.trans hW (h.2.mono hW.size)⟩) ?_
  simp only [Act.put, List.setIfInBounds_toArray, List.set_cons_zero, List.set_cons_succ, List.getElem_toArray, List.getElem_cons_zero, List.getElem_cons_succ]
  refine wpQuiet_runG (v := .bool true) (by kernel_rfl) (fun w' hC => by first | rfl | go_simp) ?_
  simp only [Act.put, List.setIfInBounds_toArray, List.set_cons_zero, List.set_cons_succ, List.getElem_toArray, List.getElem_cons_zero, List.getElem_cons_succ]
  refine wpQuiet_runG (v := .bool true) (by kernel_rfl) (fun w' hC => by first | rfl | go_simp) ?_
  simp only [Act.put, List.setIfInBounds_toArray, List.set_cons_zero, List.set_cons_succ, List.getElem_toArray, List.getElem_cons_zero, List.getElem_cons_succ]
  refine wpQuiet_runG (v := .bool true) (by kernel_rfl) (fun w' hC => by first | rfl | go_simp) ?_
  simp only [Act.put, List.setIfInBounds_toArray, List.set_cons_zero, List.set_cons_succ, List.getElem_toArray, List.getElem_cons_zero, List.getElem_cons_succ]
  refine wpQuiet_runG (v := .bool true) (by kernel_rfl) (fun w' hC => by first | rfl | go_simp) ?_
  simp only [Act.put, List.setIfInBounds_toArray, List.set_cons_zero, List.set_cons_succ, List.getElem_toArray, List.getElem_cons_zero, List.getElem_cons_succ]
  refine wpQuiet_runG (v := .bool true) (by kernel_rfl) (fun w' hC => by first | rfl | go_simp) ?_
  simp only [Act.put, List.setIfInBounds_toArray, List.set_cons_zero, List.set_cons_succ, List.getElem_toArray, List.getElem_cons_zero, List.getElem_cons_succ]
  refine wpQuiet_nil ?_
  intro wz hz
  have RL := Lib.hid (BF.out wz hz)
  clear hz
  go_wp2_with fail
  go_ret
  exact ⟨rfl, RL.out⟩
end Go.Proofs.YtnfobnnbeefeeaaGreatDoor.Wi
/- The reference's Name, A, B, N, V of commands. -/
namespace Go.Proofs.YtnfobnnbeefeeaaGreatDoor.Wi
open Go Go.RowKit
set_option linter.unusedVariables false
set_option linter.unusedSimpArgs false
theorem cnms_at : ∀ i : Fin 6, (#[.string ⟨#[]⟩, .string ⟨#[115, 116, 97, 114, 116, 45, 116, 105, 109, 101, 114]⟩, .string ⟨#[99, 97, 110, 99, 101, 108, 45, 116, 105, 109, 101, 114]⟩, .string ⟨#[115, 99, 104, 101, 100, 117, 108, 101]⟩, .string ⟨#[99, 111, 109, 112, 108, 101, 116, 101]⟩, .string ⟨#[102, 97, 105, 108]⟩, .string ⟨#[97, 103, 97, 105, 110]⟩] : Array Value)[i.val + 1]? = some (.string (str (cNms.getD i.val []))) := by
  intro i
  match i with
  | ⟨0, _⟩ => rfl
  | ⟨1, _⟩ => rfl
  | ⟨2, _⟩ => rfl
  | ⟨3, _⟩ => rfl
  | ⟨4, _⟩ => rfl
  | ⟨5, _⟩ => rfl
  | ⟨k + 6, h⟩ => exact absurd h (by omega)
set_option maxHeartbeats 4000000 in
set_option maxRecDepth 100000 in
theorem rcname_any (k : Int) (hk : -9223372036854775808 ≤ k ∧ k ≤ 9223372036854775807) (w : World) : Calls Tryz.prog 40 #[.int .i64 k] w fun e w' => e = .returned (.string (str (cNm k))) ∧ Below w.heap.size w w' := by
  obtain ⟨M, hM⟩ : ∃ M, M = str (cNm k) := ⟨_, rfl⟩
  rw [← hM]
  obtain ⟨w1, hw1⟩ : ∃ w1, w1 = w.alloc (.cells #[.string ⟨#[]⟩, .string ⟨#[115, 116, 97, 114, 116, 45, 116, 105, 109, 101, 114]⟩, .string ⟨#[99, 97, 110, 99, 101, 108, 45, 116, 105, 109, 101, 114]⟩, .string ⟨#[115, 99, 104, 101, 100, 117, 108, 101]⟩, .string ⟨#[99, 111, 109, 112, 108, 101, 116, 101]⟩, .string ⟨#[102, 97, 105, 108]⟩, .string ⟨#[97, 103, 97, 105, 110]⟩] 9) := ⟨_, rfl⟩
  obtain ⟨g, hg⟩ : ∃ g, g = w.heap.size := ⟨_, rfl⟩
  have b1 : Below w.heap.size w w1 := by rw [hw1]; exact (Below.refl _ _).alloc (Nat.le_refl _) _
  have n1 : w1.heap[g]? = some (.cells #[.string ⟨#[]⟩, .string ⟨#[115, 116, 97, 114, 116, 45, 116, 105, 109, 101, 114]⟩, .string ⟨#[99, 97, 110, 99, 101, 108, 45, 116, 105, 109, 101, 114]⟩, .string ⟨#[115, 99, 104, 101, 100, 117, 108, 101]⟩, .string ⟨#[99, 111, 109, 112, 108, 101, 116, 101]⟩, .string ⟨#[102, 97, 105, 108]⟩, .string ⟨#[97, 103, 97, 105, 110]⟩] 9 (0, 0)) := by rw [hw1, hg]; exact heap_alloc_new _ _
  have HW1 := Lib.hid hw1
  have HG := Lib.hid hg
  have B1 := Lib.hid b1
  by_cases h1 : k < 1
  · obtain rfl : M = ⟨#[]⟩ := by rw [hM]; unfold cNm; rw [if_neg (by omega)]; rfl
    clear hw1 hg b1 n1 hM
    go_enter Tryz.func40, Tryz.ntmps40
    go_upto_region 2 with fail
    rw [← HW1.out, ← HG.out]
    go_wp2_with fail
    go_ret
    exact ⟨rfl, B1.out⟩
  by_cases h2 : 6 < k
  · obtain rfl : M = ⟨#[]⟩ := by rw [hM]; unfold cNm; rw [if_neg (by omega)]; rfl
    clear hw1 hg b1 n1 hM
    go_enter Tryz.func40, Tryz.ntmps40
    go_upto_region 2 with fail
    rw [← HW1.out, ← HG.out]
    go_wp2_with fail
    go_ret
    exact ⟨rfl, B1.out⟩
  obtain ⟨i, rfl⟩ : ∃ i : Nat, k = (i : Int) + 1 := ⟨k.toNat - 1, by omega⟩
  have hi : i < 6 := by omega
  have c1 : w1.cell? ⟨g, i + 1, none⟩ = some (.string M) := by
    rw [cell_of_rowW w1 g (i + 1) _ _ _ n1, cnms_at ⟨i, hi⟩, hM]
    unfold cNm
    rw [if_pos (by omega), show ((i : Int) + 1).toNat - 1 = i by omega]
  have b21 : (i : Int) + 1 ≤ 6 := by omega
  clear hw1 hg b1 n1 hM hk
  go_enter Tryz.func40, Tryz.ntmps40
  go_upto_region 2 with fail
  rw [← HW1.out, ← HG.out]
  go_wp2_with fail
  go_ret
  exact ⟨rfl, B1.out⟩
theorem rcA_any (k : Int) (w : World) : Calls Tryz.prog 69 #[.int .i64 k] w fun e w' => e = .returned (.bool (cA k)) ∧ w' = w := by
  by_cases h1 : 1 ≤ k
  · by_cases h2 : k ≤ 3
    · rw [show cA k = true by simp [cA, h1, h2]]
      go_enter Tryz.func69, Tryz.ntmps69
      go_wp2_with fail
      go_ret
      exact ⟨rfl, rfl⟩
    · rw [show cA k = false by simp [cA, h1, h2]]
      go_enter Tryz.func69, Tryz.ntmps69
      go_wp2_with fail
      go_ret
      exact ⟨rfl, rfl⟩
  · rw [show cA k = false by simp [cA, h1]]
    go_enter Tryz.func69, Tryz.ntmps69
    go_wp2_with fail
    go_ret
    exact ⟨rfl, rfl⟩
set_option maxRecDepth 100000 in
theorem rcB_any (k : Int) (w : World) : Calls Tryz.prog 70 #[.int .i64 k] w fun e w' => e = .returned (.bool (cB k)) ∧ w' = w := by
  obtain ⟨R, hR⟩ : ∃ R, R = cB k := ⟨_, rfl⟩
  rw [← hR]
  unfold cB at hR
  by_cases h0 : k = 1
  · subst h0
    obtain rfl : R = true := by rw [hR]; rfl
    clear hR
    go_enter Tryz.func70, Tryz.ntmps70
    go_wp2_with fail
    go_ret
    exact ⟨rfl, rfl⟩
  have f0 : (k == 1) = false := by simpa using h0
  by_cases h1 : k = 3
  · subst h1
    obtain rfl : R = true := by rw [hR]; rfl
    clear hR
    go_enter Tryz.func70, Tryz.ntmps70
    go_wp2_with fail
    go_ret
    exact ⟨rfl, rfl⟩
  have f1 : (k == 3) = false := by simpa using h1
  obtain rfl : R = false := by rw [hR]; simp [h0, h1]
  clear hR
  go_enter Tryz.func70, Tryz.ntmps70
  go_wp2_with fail
  go_ret
  exact ⟨rfl, rfl⟩
set_option maxRecDepth 100000 in
theorem rcN_any (k : Int) (w : World) : Calls Tryz.prog 71 #[.int .i64 k] w fun e w' => e = .returned (.bool (cN k)) ∧ w' = w := by
  obtain ⟨R, hR⟩ : ∃ R, R = cN k := ⟨_, rfl⟩
  rw [← hR]
  unfold cN at hR
  by_cases h0 : k = 3
  · subst h0
    obtain rfl : R = true := by rw [hR]; rfl
    clear hR
    go_enter Tryz.func71, Tryz.ntmps71
    go_wp2_with fail
    go_ret
    exact ⟨rfl, rfl⟩
  have f0 : (k == 3) = false := by simpa using h0
  by_cases h1 : k = 5
  · subst h1
    obtain rfl : R = true := by rw [hR]; rfl
    clear hR
    go_enter Tryz.func71, Tryz.ntmps71
    go_wp2_with fail
    go_ret
    exact ⟨rfl, rfl⟩
  have f1 : (k == 5) = false := by simpa using h1
  obtain rfl : R = false := by rw [hR]; simp [h0, h1]
  clear hR
  go_enter Tryz.func71, Tryz.ntmps71
  go_wp2_with fail
  go_ret
  exact ⟨rfl, rfl⟩
set_option maxRecDepth 100000 in
theorem rcV_any (k : Int) (w : World) : Calls Tryz.prog 72 #[.int .i64 k] w fun e w' => e = .returned (.bool (cV k)) ∧ w' = w := by
  obtain ⟨R, hR⟩ : ∃ R, R = cV k := ⟨_, rfl⟩
  rw [← hR]
  unfold cV at hR
  by_cases h0 : k = 3
  · subst h0
    obtain rfl : R = true := by rw [hR]; rfl
    clear hR
    go_enter Tryz.func72, Tryz.ntmps72
    go_wp2_with fail
    go_ret
    exact ⟨rfl, rfl⟩
  have f0 : (k == 3) = false := by simpa using h0
  by_cases h1 : k = 4
  · subst h1
    obtain rfl : R = true := by rw [hR]; rfl
    clear hR
    go_enter Tryz.func72, Tryz.ntmps72
    go_wp2_with fail
    go_ret
    exact ⟨rfl, rfl⟩
  have f1 : (k == 4) = false := by simpa using h1
  by_cases h2 : k = 6
  · subst h2
    obtain rfl : R = true := by rw [hR]; rfl
    clear hR
    go_enter Tryz.func72, Tryz.ntmps72
    go_wp2_with fail
    go_ret
    exact ⟨rfl, rfl⟩
  have f2 : (k == 6) = false := by simpa using h2
  obtain rfl : R = false := by rw [hR]; simp [h0, h1, h2]
  clear hR
  go_enter Tryz.func72, Tryz.ntmps72
  go_wp2_with fail
  go_ret
  exact ⟨rfl, rfl⟩
end Go.Proofs.YtnfobnnbeefeeaaGreatDoor.Wi
