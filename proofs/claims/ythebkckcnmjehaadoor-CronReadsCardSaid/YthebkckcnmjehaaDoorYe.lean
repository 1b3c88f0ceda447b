/- The reference's Fits. -/
import Derived.Test.YthebkckcnmjehaaDoorYd
import Derived.Test.YthebkckcnmjehaaDoorCk
namespace Go.Proofs.YthebkckcnmjehaaDoor
open Go Go.RowKit
set_option linter.unusedVariables false
set_option linter.unusedSimpArgs false
set_option maxHeartbeats 16000000 in
set_option maxRecDepth 100000 in
theorem refFits_any (gF cp : Nat) (D : List (List Nat × Bool)) (x : DateD) (hx : x.Small) (w : World) (hF : FldAt w gF D) :
    Calls Tryd.prog 15 #[.slice (some ⟨gF, 0, none⟩) 5 cp, .agg x.list.toArray] w fun e w' => e = .returned (.bool (fitsN D x)) ∧ Below w.heap.size w w' := by
  have DY := Lib.hid (fun W (hW : FldAt W gF D) => refDay_any gF cp D x hx W hW)
  have HF0 := Lib.hid hF
  obtain ⟨l0, a0, c0, n0, p0, q0⟩ := hF 0 (by decide)
  obtain ⟨l1, a1, c1, n1, p1, q1⟩ := hF 1 (by decide)
  have e0 : fitsN D x = (fitsDayN D x && decide (x.h ∈ (D.getD 1 ([], false)).1) && decide (x.mi ∈ (D.getD 0 ([], false)).1)) := rfl
  rw [e0]
  clear e0 hF
  obtain ⟨bd, hbd⟩ : ∃ b, b = fitsDayN D x := ⟨_, rfl⟩
  rw [← hbd]
  simp only [← hbd] at DY
  generalize D.getD 0 ([], false) = F0 at *
  generalize D.getD 1 ([], false) = F1 at *
  obtain ⟨L0, s0⟩ := F0
  obtain ⟨L1, s1⟩ := F1
  dsimp only at *
  have hh := hx.h
  have hmi := hx.mi
  have hl : x.list = [.int .i64 (x.y : Int), .int .i64 (x.m : Int), .int .i64 (x.d : Int), .int .i64 (x.h : Int), .int .i64 (x.mi : Int), .int .i64 (x.w : Int)] := rfl
  obtain ⟨bm, hbm⟩ : ∃ b, b = decide (x.mi ∈ L0) := ⟨_, rfl⟩
  obtain ⟨bh, hbh⟩ : ∃ b, b = decide (x.h ∈ L1) := ⟨_, rfl⟩
  rw [← hbm, ← hbh]
  obtain ⟨r, hr⟩ : ∃ r, r = (bd && bh && bm) := ⟨_, rfl⟩
  rw [← hr]
  have HR := Lib.hid hr
  obtain ⟨X, hX⟩ : ∃ X, X = x.list := ⟨_, rfl⟩
  have hX3 : X[3]? = some (.int .i64 (x.h : Int)) := by rw [hX]; rfl
  have hX4 : X[4]? = some (.int .i64 (x.mi : Int)) := by rw [hX]; rfl
  have hX6 : X.length = 6 := by rw [hX]; rfl
  rw [← hX] at DY ⊢
  obtain ⟨xh, hxh⟩ : ∃ n, n = x.h := ⟨_, rfl⟩
  obtain ⟨xmi, hxmi⟩ : ∃ n, n = x.mi := ⟨_, rfl⟩
  rw [← hxh] at hX3 hh hbh
  rw [← hxmi] at hX4 hmi hbm
  clear hl hX hxh hxmi
  obtain ⟨w1, hw1⟩ : ∃ w1, w1 = w.alloc (.cells X.toArray 37) := ⟨_, rfl⟩
  obtain ⟨g, hg⟩ : ∃ g, g = w.heap.size := ⟨_, rfl⟩
  have hb1 : Below w.heap.size w w1 := by rw [hw1]; exact (Below.refl _ _).alloc (Nat.le_refl _) _
  have nk : w1.heap[g]? = some (.cells X.toArray 37 (0, 0)) := by rw [hw1, hg]; exact heap_alloc_new _ _
  have HB1 := Lib.hid hb1
  have HW1 := Lib.hid hw1
  have HG := Lib.hid hg
  have row : ∀ W, Below w1.heap.size w1 W → ∀ (j : Nat) v, X[j]? = some v → W.cell? ((⟨g, 0, none⟩ : Addr).add j) = some v := fun W hW j v hj => by
    have h := (hW.block g (lt_of_rowW nk)).trans nk
    rw [Addr.add_mid, Nat.zero_add, cell_of_rowW W g j _ _ _ h]
    simpa using hj
  have KX := Lib.hid row
  have KW := Lib.hid (show ∀ W, Below w1.heap.size w1 W → W.cell? ⟨g, 3, none⟩ = some (.int .i64 (xh : Int)) ∧ W.cell? ⟨g, 4, none⟩ = some (.int .i64 (xmi : Int)) from fun W hW => by
    have h3 := row W hW 3 _ hX3
    have h4 := row W hW 4 _ hX4
    rw [Addr.add_mid, Nat.zero_add] at h3 h4
    exact ⟨h3, h4⟩)
  have up : ∀ W, Below w1.heap.size w1 W → Below w.heap.size w W := fun W h => hb1.trans (h.mono hb1.size)
  have UP := Lib.hid up
  have cellU : ∀ (p : Addr) v, w.cell? p = some v → ∀ W, Below w1.heap.size w1 W → W.cell? p = some v := fun p v h W hW => by
    rw [(up W hW).cell (World.block_lt_of_cell? w _ h)]; exact h
  have two : ∀ (q : Nat) (v0 v1 : Value), w.cell? ⟨gF, q, none⟩ = some v0 → w.cell? ⟨gF, q + 1, none⟩ = some v1 → ∀ W, Below w1.heap.size w1 W → ∀ (j : Nat) v, [v0, v1][j]? = some v → W.cell? ((⟨gF, q, none⟩ : Addr).add j) = some v := fun q v0 v1 h0 h1 W hW j v hj => by
    match j, hj with
    | 0, hj => cases hj; exact cellU _ _ h0 W hW
    | 1, hj => cases hj; exact cellU _ _ h1 W hW
    | j + 2, hj => simp at hj
  have K0 := Lib.hid (two 0 _ _ p0 q0)
  have K1 := Lib.hid (two 2 _ _ p1 q1)
  have SF := Lib.hid (show ∀ v0 v1 : Value, (Tryd.prog.info? 67).map (·.size) = some ([v0, v1] : List Value).length from fun _ _ => by show _ = some 2; kernel_rfl)
  have SD := Lib.hid (show (Tryd.prog.info? 37).map (·.size) = some X.length by rw [hX6]; kernel_rfl)
  have CM := Lib.hid (fun W (hW : Below w1.heap.size w1 W) => refHas_any L0 l0 a0 c0 s0 xmi (by omega) W (n0.below (up W hW) (Nat.le_refl _)))
  have CH := Lib.hid (fun W (hW : Below w1.heap.size w1 W) => refHas_any L1 l1 a1 c1 s1 xh (by omega) W (n1.below (up W hW) (Nat.le_refl _)))
  have CD := Lib.hid (fun W (hW : Below w1.heap.size w1 W) => DY.out W (HF0.out.below (up W hW) (Nat.le_refl _)))
  simp only [← hbm] at CM
  simp only [← hbh] at CH
  clear hr hw1 hg hb1 nk up cellU two row p0 q0 p1 q1 n0 n1 hbd hbm hbh l0 l1 hX3 hX4 hX6 DY
  go_enter Tryd.func15, Tryd.ntmps15
  go_upto_region 1 with fail
  rw [← HW1.out, ← HG.out]
  cases bm
  · refine wp_region_quiet_in (fun w' => Below w1.heap.size w1 w') (by kernel_rfl) (by kernel_rfl) (below_drewN (Below.refl w1.heap.size w1) 1) ?_
    refine wpQuiet_runG (v := (.slice (some ⟨gF, 0, none⟩) 5 cp)) (by kernel_rfl) (fun w' hC => by rfl) ?_
    simp only [Act.put, List.setIfInBounds_toArray, List.set_cons_zero, List.set_cons_succ, List.getElem_toArray, List.getElem_cons_zero, List.getElem_cons_succ]
    refine wpQuiet_runG (v := (.pointer (some ⟨gF, 0, none⟩))) (by kernel_rfl) (fun w' hC => by go_simp) ?_
    simp only [Act.put, List.setIfInBounds_toArray, List.set_cons_zero, List.set_cons_succ, List.getElem_toArray, List.getElem_cons_zero, List.getElem_cons_succ]
    refine wpQuiet_loadG (by kernel_rfl) 67 (.tmp 6) rfl ⟨gF, 0, none⟩ rfl [.slice a0 L0.length c0, .bool s0] _ (fun w' hC => K0.out w' hC) Tryd.underlying67 rfl (SF.out _ _) ?_
    simp only [Act.put, List.setIfInBounds_toArray, List.set_cons_zero, List.set_cons_succ, List.getElem_toArray, List.getElem_cons_zero, List.getElem_cons_succ]
    refine wpQuiet_runG (v := (.pointer (some ⟨g, 4, none⟩))) (by kernel_rfl) (fun w' hC => by go_simp) ?_
    simp only [Act.put, List.setIfInBounds_toArray, List.set_cons_zero, List.set_cons_succ, List.getElem_toArray, List.getElem_cons_zero, List.getElem_cons_succ]
    refine wpQuiet_runG (v := (.int .i64 (xmi : Int))) (by kernel_rfl) (fun w' hC => by have h := (KW.out w' hC).2; go_simp) ?_
    simp only [Act.put, List.setIfInBounds_toArray, List.set_cons_zero, List.set_cons_succ, List.getElem_toArray, List.getElem_cons_zero, List.getElem_cons_succ]
    refine wpQuiet_callG (f := 28) (xs := #[.tmp 7, .tmp 9]) #[.agg #[.slice a0 L0.length c0, .bool s0], .int .i64 (xmi : Int)] (.bool false) (by kernel_rfl) rfl Tryd.func28 (by kernel_rfl) (by kernel_rfl) (by simp [Act.eval]) (fun W hW => (CM.out W hW).mono fun e w' h => ⟨h.1, Below.trans hW (h.2.mono hW.size)⟩) ?_
    simp only [Act.put, List.setIfInBounds_toArray, List.set_cons_zero, List.set_cons_succ, List.getElem_toArray, List.getElem_cons_zero, List.getElem_cons_succ]
    refine wpQuiet_runG (v := (.bool false)) (by kernel_rfl) (fun w' hC => by rfl) ?_
    simp only [Act.put, List.setIfInBounds_toArray, List.set_cons_zero, List.set_cons_succ, List.getElem_toArray, List.getElem_cons_zero, List.getElem_cons_succ]
    refine wpQuiet_skipN 6 _ _ (by kernel_rfl) ?_
    simp only [skipAct, List.drop_succ_cons, List.drop_zero]
    simp only [Act.put, List.setIfInBounds_toArray, List.set_cons_zero, List.set_cons_succ, List.getElem_toArray, List.getElem_cons_zero, List.getElem_cons_succ]
    refine wpQuiet_runG (v := (.bool false)) (by kernel_rfl) (fun w' hC => by rfl) ?_
    simp only [Act.put, List.setIfInBounds_toArray, List.set_cons_zero, List.set_cons_succ, List.getElem_toArray, List.getElem_cons_zero, List.getElem_cons_succ]
    refine wpQuiet_runG (v := (.bool false)) (by kernel_rfl) (fun w' hC => by rfl) ?_
    simp only [Act.put, List.setIfInBounds_toArray, List.set_cons_zero, List.set_cons_succ, List.getElem_toArray, List.getElem_cons_zero, List.getElem_cons_succ]
    refine wpQuiet_skipN 3 _ _ (by kernel_rfl) ?_
    simp only [skipAct, List.drop_succ_cons, List.drop_zero]
    simp only [Act.put, List.setIfInBounds_toArray, List.set_cons_zero, List.set_cons_succ, List.getElem_toArray, List.getElem_cons_zero, List.getElem_cons_succ]
    refine wpQuiet_runG (v := (.bool false)) (by kernel_rfl) (fun w' hC => by rfl) ?_
    simp only [Act.put, List.setIfInBounds_toArray, List.set_cons_zero, List.set_cons_succ, List.getElem_toArray, List.getElem_cons_zero, List.getElem_cons_succ]
    refine wpQuiet_runG (v := (.bool false)) (by kernel_rfl) (fun w' hC => by rfl) ?_
    simp only [Act.put, List.setIfInBounds_toArray, List.set_cons_zero, List.set_cons_succ, List.getElem_toArray, List.getElem_cons_zero, List.getElem_cons_succ]
    refine wpQuiet_nil ?_
    intro w3 hC3
    go_wp2_with fail
    go_ret
    exact ⟨by rw [HR.out]; simp, UP.out _ hC3⟩
  · cases bh
    · refine wp_region_quiet_in (fun w' => Below w1.heap.size w1 w') (by kernel_rfl) (by kernel_rfl) (below_drewN (Below.refl w1.heap.size w1) 1) ?_
      refine wpQuiet_runG (v := (.slice (some ⟨gF, 0, none⟩) 5 cp)) (by kernel_rfl) (fun w' hC => by rfl) ?_
      simp only [Act.put, List.setIfInBounds_toArray, List.set_cons_zero, List.set_cons_succ, List.getElem_toArray, List.getElem_cons_zero, List.getElem_cons_succ]
      refine wpQuiet_runG (v := (.pointer (some ⟨gF, 0, none⟩))) (by kernel_rfl) (fun w' hC => by go_simp) ?_
      simp only [Act.put, List.setIfInBounds_toArray, List.set_cons_zero, List.set_cons_succ, List.getElem_toArray, List.getElem_cons_zero, List.getElem_cons_succ]
      refine wpQuiet_loadG (by kernel_rfl) 67 (.tmp 6) rfl ⟨gF, 0, none⟩ rfl [.slice a0 L0.length c0, .bool s0] _ (fun w' hC => K0.out w' hC) Tryd.underlying67 rfl (SF.out _ _) ?_
      simp only [Act.put, List.setIfInBounds_toArray, List.set_cons_zero, List.set_cons_succ, List.getElem_toArray, List.getElem_cons_zero, List.getElem_cons_succ]
      refine wpQuiet_runG (v := (.pointer (some ⟨g, 4, none⟩))) (by kernel_rfl) (fun w' hC => by go_simp) ?_
      simp only [Act.put, List.setIfInBounds_toArray, List.set_cons_zero, List.set_cons_succ, List.getElem_toArray, List.getElem_cons_zero, List.getElem_cons_succ]
      refine wpQuiet_runG (v := (.int .i64 (xmi : Int))) (by kernel_rfl) (fun w' hC => by have h := (KW.out w' hC).2; go_simp) ?_
      simp only [Act.put, List.setIfInBounds_toArray, List.set_cons_zero, List.set_cons_succ, List.getElem_toArray, List.getElem_cons_zero, List.getElem_cons_succ]
      refine wpQuiet_callG (f := 28) (xs := #[.tmp 7, .tmp 9]) #[.agg #[.slice a0 L0.length c0, .bool s0], .int .i64 (xmi : Int)] (.bool true) (by kernel_rfl) rfl Tryd.func28 (by kernel_rfl) (by kernel_rfl) (by simp [Act.eval]) (fun W hW => (CM.out W hW).mono fun e w' h => ⟨h.1, Below.trans hW (h.2.mono hW.size)⟩) ?_
      simp only [Act.put, List.setIfInBounds_toArray, List.set_cons_zero, List.set_cons_succ, List.getElem_toArray, List.getElem_cons_zero, List.getElem_cons_succ]
      refine wpQuiet_runG (v := (.bool true)) (by kernel_rfl) (fun w' hC => by rfl) ?_
      simp only [Act.put, List.setIfInBounds_toArray, List.set_cons_zero, List.set_cons_succ, List.getElem_toArray, List.getElem_cons_zero, List.getElem_cons_succ]
      refine wpQuiet_runG (v := (.slice (some ⟨gF, 0, none⟩) 5 cp)) (by kernel_rfl) (fun w' hC => by rfl) ?_
      simp only [Act.put, List.setIfInBounds_toArray, List.set_cons_zero, List.set_cons_succ, List.getElem_toArray, List.getElem_cons_zero, List.getElem_cons_succ]
      refine wpQuiet_runG (v := (.pointer (some ⟨gF, 2, none⟩))) (by kernel_rfl) (fun w' hC => by go_simp) ?_
      simp only [Act.put, List.setIfInBounds_toArray, List.set_cons_zero, List.set_cons_succ, List.getElem_toArray, List.getElem_cons_zero, List.getElem_cons_succ]
      refine wpQuiet_loadG (by kernel_rfl) 67 (.tmp 13) rfl ⟨gF, 2, none⟩ rfl [.slice a1 L1.length c1, .bool s1] _ (fun w' hC => K1.out w' hC) Tryd.underlying67 rfl (SF.out _ _) ?_
      simp only [Act.put, List.setIfInBounds_toArray, List.set_cons_zero, List.set_cons_succ, List.getElem_toArray, List.getElem_cons_zero, List.getElem_cons_succ]
      refine wpQuiet_runG (v := (.pointer (some ⟨g, 3, none⟩))) (by kernel_rfl) (fun w' hC => by go_simp) ?_
      simp only [Act.put, List.setIfInBounds_toArray, List.set_cons_zero, List.set_cons_succ, List.getElem_toArray, List.getElem_cons_zero, List.getElem_cons_succ]
      refine wpQuiet_runG (v := (.int .i64 (xh : Int))) (by kernel_rfl) (fun w' hC => by have h := (KW.out w' hC).1; go_simp) ?_
      simp only [Act.put, List.setIfInBounds_toArray, List.set_cons_zero, List.set_cons_succ, List.getElem_toArray, List.getElem_cons_zero, List.getElem_cons_succ]
      refine wpQuiet_callG (f := 28) (xs := #[.tmp 14, .tmp 16]) #[.agg #[.slice a1 L1.length c1, .bool s1], .int .i64 (xh : Int)] (.bool false) (by kernel_rfl) rfl Tryd.func28 (by kernel_rfl) (by kernel_rfl) (by simp [Act.eval]) (fun W hW => (CH.out W hW).mono fun e w' h => ⟨h.1, Below.trans hW (h.2.mono hW.size)⟩) ?_
      simp only [Act.put, List.setIfInBounds_toArray, List.set_cons_zero, List.set_cons_succ, List.getElem_toArray, List.getElem_cons_zero, List.getElem_cons_succ]
      refine wpQuiet_runG (v := (.bool false)) (by kernel_rfl) (fun w' hC => by rfl) ?_
      simp only [Act.put, List.setIfInBounds_toArray, List.set_cons_zero, List.set_cons_succ, List.getElem_toArray, List.getElem_cons_zero, List.getElem_cons_succ]
      refine wpQuiet_runG (v := (.bool false)) (by kernel_rfl) (fun w' hC => by rfl) ?_
      simp only [Act.put, List.setIfInBounds_toArray, List.set_cons_zero, List.set_cons_succ, List.getElem_toArray, List.getElem_cons_zero, List.getElem_cons_succ]
      refine wpQuiet_skipN 3 _ _ (by kernel_rfl) ?_
      simp only [skipAct, List.drop_succ_cons, List.drop_zero]
      simp only [Act.put, List.setIfInBounds_toArray, List.set_cons_zero, List.set_cons_succ, List.getElem_toArray, List.getElem_cons_zero, List.getElem_cons_succ]
      refine wpQuiet_runG (v := (.bool false)) (by kernel_rfl) (fun w' hC => by rfl) ?_
      simp only [Act.put, List.setIfInBounds_toArray, List.set_cons_zero, List.set_cons_succ, List.getElem_toArray, List.getElem_cons_zero, List.getElem_cons_succ]
      refine wpQuiet_runG (v := (.bool false)) (by kernel_rfl) (fun w' hC => by rfl) ?_
      simp only [Act.put, List.setIfInBounds_toArray, List.set_cons_zero, List.set_cons_succ, List.getElem_toArray, List.getElem_cons_zero, List.getElem_cons_succ]
      refine wpQuiet_nil ?_
      intro w3 hC3
      go_wp2_with fail
      go_ret
      exact ⟨by rw [HR.out]; simp, UP.out _ hC3⟩
    · cases bd
      · refine wp_region_quiet_in (fun w' => Below w1.heap.size w1 w') (by kernel_rfl) (by kernel_rfl) (below_drewN (Below.refl w1.heap.size w1) 1) ?_
        refine wpQuiet_runG (v := (.slice (some ⟨gF, 0, none⟩) 5 cp)) (by kernel_rfl) (fun w' hC => by rfl) ?_
        simp only [Act.put, List.setIfInBounds_toArray, List.set_cons_zero, List.set_cons_succ, List.getElem_toArray, List.getElem_cons_zero, List.getElem_cons_succ]
        refine wpQuiet_runG (v := (.pointer (some ⟨gF, 0, none⟩))) (by kernel_rfl) (fun w' hC => by go_simp) ?_
        simp only [Act.put, List.setIfInBounds_toArray, List.set_cons_zero, List.set_cons_succ, List.getElem_toArray, List.getElem_cons_zero, List.getElem_cons_succ]
        refine wpQuiet_loadG (by kernel_rfl) 67 (.tmp 6) rfl ⟨gF, 0, none⟩ rfl [.slice a0 L0.length c0, .bool s0] _ (fun w' hC => K0.out w' hC) Tryd.underlying67 rfl (SF.out _ _) ?_
        simp only [Act.put, List.setIfInBounds_toArray, List.set_cons_zero, List.set_cons_succ, List.getElem_toArray, List.getElem_cons_zero, List.getElem_cons_succ]
        refine wpQuiet_runG (v := (.pointer (some ⟨g, 4, none⟩))) (by kernel_rfl) (fun w' hC => by go_simp) ?_
        simp only [Act.put, List.setIfInBounds_toArray, List.set_cons_zero, List.set_cons_succ, List.getElem_toArray, List.getElem_cons_zero, List.getElem_cons_succ]
        refine wpQuiet_runG (v := (.int .i64 (xmi : Int))) (by kernel_rfl) (fun w' hC => by have h := (KW.out w' hC).2; go_simp) ?_
        simp only [Act.put, List.setIfInBounds_toArray, List.set_cons_zero, List.set_cons_succ, List.getElem_toArray, List.getElem_cons_zero, List.getElem_cons_succ]
        refine wpQuiet_callG (f := 28) (xs := #[.tmp 7, .tmp 9]) #[.agg #[.slice a0 L0.length c0, .bool s0], .int .i64 (xmi : Int)] (.bool true) (by kernel_rfl) rfl Tryd.func28 (by kernel_rfl) (by kernel_rfl) (by simp [Act.eval]) (fun W hW => (CM.out W hW).mono fun e w' h => ⟨h.1, Below.trans hW (h.2.mono hW.size)⟩) ?_
        simp only [Act.put, List.setIfInBounds_toArray, List.set_cons_zero, List.set_cons_succ, List.getElem_toArray, List.getElem_cons_zero, List.getElem_cons_succ]
        refine wpQuiet_runG (v := (.bool true)) (by kernel_rfl) (fun w' hC => by rfl) ?_
        simp only [Act.put, List.setIfInBounds_toArray, List.set_cons_zero, List.set_cons_succ, List.getElem_toArray, List.getElem_cons_zero, List.getElem_cons_succ]
        refine wpQuiet_runG (v := (.slice (some ⟨gF, 0, none⟩) 5 cp)) (by kernel_rfl) (fun w' hC => by rfl) ?_
        simp only [Act.put, List.setIfInBounds_toArray, List.set_cons_zero, List.set_cons_succ, List.getElem_toArray, List.getElem_cons_zero, List.getElem_cons_succ]
        refine wpQuiet_runG (v := (.pointer (some ⟨gF, 2, none⟩))) (by kernel_rfl) (fun w' hC => by go_simp) ?_
        simp only [Act.put, List.setIfInBounds_toArray, List.set_cons_zero, List.set_cons_succ, List.getElem_toArray, List.getElem_cons_zero, List.getElem_cons_succ]
        refine wpQuiet_loadG (by kernel_rfl) 67 (.tmp 13) rfl ⟨gF, 2, none⟩ rfl [.slice a1 L1.length c1, .bool s1] _ (fun w' hC => K1.out w' hC) Tryd.underlying67 rfl (SF.out _ _) ?_
        simp only [Act.put, List.setIfInBounds_toArray, List.set_cons_zero, List.set_cons_succ, List.getElem_toArray, List.getElem_cons_zero, List.getElem_cons_succ]
        refine wpQuiet_runG (v := (.pointer (some ⟨g, 3, none⟩))) (by kernel_rfl) (fun w' hC => by go_simp) ?_
        simp only [Act.put, List.setIfInBounds_toArray, List.set_cons_zero, List.set_cons_succ, List.getElem_toArray, List.getElem_cons_zero, List.getElem_cons_succ]
        refine wpQuiet_runG (v := (.int .i64 (xh : Int))) (by kernel_rfl) (fun w' hC => by have h := (KW.out w' hC).1; go_simp) ?_
        simp only [Act.put, List.setIfInBounds_toArray, List.set_cons_zero, List.set_cons_succ, List.getElem_toArray, List.getElem_cons_zero, List.getElem_cons_succ]
        refine wpQuiet_callG (f := 28) (xs := #[.tmp 14, .tmp 16]) #[.agg #[.slice a1 L1.length c1, .bool s1], .int .i64 (xh : Int)] (.bool true) (by kernel_rfl) rfl Tryd.func28 (by kernel_rfl) (by kernel_rfl) (by simp [Act.eval]) (fun W hW => (CH.out W hW).mono fun e w' h => ⟨h.1, Below.trans hW (h.2.mono hW.size)⟩) ?_
        simp only [Act.put, List.setIfInBounds_toArray, List.set_cons_zero, List.set_cons_succ, List.getElem_toArray, List.getElem_cons_zero, List.getElem_cons_succ]
        refine wpQuiet_runG (v := (.bool true)) (by kernel_rfl) (fun w' hC => by rfl) ?_
        simp only [Act.put, List.setIfInBounds_toArray, List.set_cons_zero, List.set_cons_succ, List.getElem_toArray, List.getElem_cons_zero, List.getElem_cons_succ]
        refine wpQuiet_runG (v := (.bool true)) (by kernel_rfl) (fun w' hC => by rfl) ?_
        simp only [Act.put, List.setIfInBounds_toArray, List.set_cons_zero, List.set_cons_succ, List.getElem_toArray, List.getElem_cons_zero, List.getElem_cons_succ]
        refine wpQuiet_runG (v := (.slice (some ⟨gF, 0, none⟩) 5 cp)) (by kernel_rfl) (fun w' hC => by rfl) ?_
        simp only [Act.put, List.setIfInBounds_toArray, List.set_cons_zero, List.set_cons_succ, List.getElem_toArray, List.getElem_cons_zero, List.getElem_cons_succ]
        refine wpQuiet_loadG (by kernel_rfl) 37 (.tmp 3) rfl ⟨g, 0, none⟩ rfl X _ (fun w' hC => KX.out w' hC) Tryd.underlying37 rfl SD.out ?_
        simp only [Act.put, List.setIfInBounds_toArray, List.set_cons_zero, List.set_cons_succ, List.getElem_toArray, List.getElem_cons_zero, List.getElem_cons_succ]
        refine wpQuiet_callG (f := 29) (xs := #[.tmp 20, .tmp 21]) #[.slice (some ⟨gF, 0, none⟩) 5 cp, .agg X.toArray] (.bool false) (by kernel_rfl) rfl Tryd.func29 (by kernel_rfl) (by kernel_rfl) (by simp [Act.eval]) (fun W hW => (CD.out W hW).mono fun e w' h => ⟨h.1, Below.trans hW (h.2.mono hW.size)⟩) ?_
        simp only [Act.put, List.setIfInBounds_toArray, List.set_cons_zero, List.set_cons_succ, List.getElem_toArray, List.getElem_cons_zero, List.getElem_cons_succ]
        refine wpQuiet_runG (v := (.bool false)) (by kernel_rfl) (fun w' hC => by rfl) ?_
        simp only [Act.put, List.setIfInBounds_toArray, List.set_cons_zero, List.set_cons_succ, List.getElem_toArray, List.getElem_cons_zero, List.getElem_cons_succ]
        refine wpQuiet_runG (v := (.bool false)) (by kernel_rfl) (fun w' hC => by rfl) ?_
        simp only [Act.put, List.setIfInBounds_toArray, List.set_cons_zero, List.set_cons_succ, List.getElem_toArray, List.getElem_cons_zero, List.getElem_cons_succ]
        refine wpQuiet_nil ?_
        intro w3 hC3
        go_wp2_with fail
        go_ret
        exact ⟨by rw [HR.out]; simp, UP.out _ hC3⟩
      · refine wp_region_quiet_in (fun w' => Below w1.heap.size w1 w') (by kernel_rfl) (by kernel_rfl) (below_drewN (Below.refl w1.heap.size w1) 1) ?_
        refine wpQuiet_runG (v := (.slice (some ⟨gF, 0, none⟩) 5 cp)) (by kernel_rfl) (fun w' hC => by rfl) ?_
        simp only [Act.put, List.setIfInBounds_toArray, List.set_cons_zero, List.set_cons_succ, List.getElem_toArray, List.getElem_cons_zero, List.getElem_cons_succ]
        refine wpQuiet_runG (v := (.pointer (some ⟨gF, 0, none⟩))) (by kernel_rfl) (fun w' hC => by go_simp) ?_
        simp only [Act.put, List.setIfInBounds_toArray, List.set_cons_zero, List.set_cons_succ, List.getElem_toArray, List.getElem_cons_zero, List.getElem_cons_succ]
        refine wpQuiet_loadG (by kernel_rfl) 67 (.tmp 6) rfl ⟨gF, 0, none⟩ rfl [.slice a0 L0.length c0, .bool s0] _ (fun w' hC => K0.out w' hC) Tryd.underlying67 rfl (SF.out _ _) ?_
        simp only [Act.put, List.setIfInBounds_toArray, List.set_cons_zero, List.set_cons_succ, List.getElem_toArray, List.getElem_cons_zero, List.getElem_cons_succ]
        refine wpQuiet_runG (v := (.pointer (some ⟨g, 4, none⟩))) (by kernel_rfl) (fun w' hC => by go_simp) ?_
        simp only [Act.put, List.setIfInBounds_toArray, List.set_cons_zero, List.set_cons_succ, List.getElem_toArray, List.getElem_cons_zero, List.getElem_cons_succ]
        refine wpQuiet_runG (v := (.int .i64 (xmi : Int))) (by kernel_rfl) (fun w' hC => by have h := (KW.out w' hC).2; go_simp) ?_
        simp only [Act.put, List.setIfInBounds_toArray, List.set_cons_zero, List.set_cons_succ, List.getElem_toArray, List.getElem_cons_zero, List.getElem_cons_succ]
        refine wpQuiet_callG (f := 28) (xs := #[.tmp 7, .tmp 9]) #[.agg #[.slice a0 L0.length c0, .bool s0], .int .i64 (xmi : Int)] (.bool true) (by kernel_rfl) rfl Tryd.func28 (by kernel_rfl) (by kernel_rfl) (by simp [Act.eval]) (fun W hW => (CM.out W hW).mono fun e w' h => ⟨h.1, Below.trans hW (h.2.mono hW.size)⟩) ?_
        simp only [Act.put, List.setIfInBounds_toArray, List.set_cons_zero, List.set_cons_succ, List.getElem_toArray, List.getElem_cons_zero, List.getElem_cons_succ]
        refine wpQuiet_runG (v := (.bool true)) (by kernel_rfl) (fun w' hC => by rfl) ?_
        simp only [Act.put, List.setIfInBounds_toArray, List.set_cons_zero, List.set_cons_succ, List.getElem_toArray, List.getElem_cons_zero, List.getElem_cons_succ]
        refine wpQuiet_runG (v := (.slice (some ⟨gF, 0, none⟩) 5 cp)) (by kernel_rfl) (fun w' hC => by rfl) ?_
        simp only [Act.put, List.setIfInBounds_toArray, List.set_cons_zero, List.set_cons_succ, List.getElem_toArray, List.getElem_cons_zero, List.getElem_cons_succ]
        refine wpQuiet_runG (v := (.pointer (some ⟨gF, 2, none⟩))) (by kernel_rfl) (fun w' hC => by go_simp) ?_
        simp only [Act.put, List.setIfInBounds_toArray, List.set_cons_zero, List.set_cons_succ, List.getElem_toArray, List.getElem_cons_zero, List.getElem_cons_succ]
        refine wpQuiet_loadG (by kernel_rfl) 67 (.tmp 13) rfl ⟨gF, 2, none⟩ rfl [.slice a1 L1.length c1, .bool s1] _ (fun w' hC => K1.out w' hC) Tryd.underlying67 rfl (SF.out _ _) ?_
        simp only [Act.put, List.setIfInBounds_toArray, List.set_cons_zero, List.set_cons_succ, List.getElem_toArray, List.getElem_cons_zero, List.getElem_cons_succ]
        refine wpQuiet_runG (v := (.pointer (some ⟨g, 3, none⟩))) (by kernel_rfl) (fun w' hC => by go_simp) ?_
        simp only [Act.put, List.setIfInBounds_toArray, List.set_cons_zero, List.set_cons_succ, List.getElem_toArray, List.getElem_cons_zero, List.getElem_cons_succ]
        refine wpQuiet_runG (v := (.int .i64 (xh : Int))) (by kernel_rfl) (fun w' hC => by have h := (KW.out w' hC).1; go_simp) ?_
        simp only [Act.put, List.setIfInBounds_toArray, List.set_cons_zero, List.set_cons_succ, List.getElem_toArray, List.getElem_cons_zero, List.getElem_cons_succ]
        refine wpQuiet_callG (f := 28) (xs := #[.tmp 14, .tmp 16]) #[.agg #[.slice a1 L1.length c1, .bool s1], .int .i64 (xh : Int)] (.bool true) (by kernel_rfl) rfl Tryd.func28 (by kernel_rfl) (by kernel_rfl) (by simp [Act.eval]) (fun W hW => (CH.out W hW).mono fun e w' h => ⟨h.1, Below.trans hW (h.2.mono hW.size)⟩) ?_
        simp only [Act.put, List.setIfInBounds_toArray, List.set_cons_zero, List.set_cons_succ, List.getElem_toArray, List.getElem_cons_zero, List.getElem_cons_succ]
        refine wpQuiet_runG (v := (.bool true)) (by kernel_rfl) (fun w' hC => by rfl) ?_
        simp only [Act.put, List.setIfInBounds_toArray, List.set_cons_zero, List.set_cons_succ, List.getElem_toArray, List.getElem_cons_zero, List.getElem_cons_succ]
        refine wpQuiet_runG (v := (.bool true)) (by kernel_rfl) (fun w' hC => by rfl) ?_
        simp only [Act.put, List.setIfInBounds_toArray, List.set_cons_zero, List.set_cons_succ, List.getElem_toArray, List.getElem_cons_zero, List.getElem_cons_succ]
        refine wpQuiet_runG (v := (.slice (some ⟨gF, 0, none⟩) 5 cp)) (by kernel_rfl) (fun w' hC => by rfl) ?_
        simp only [Act.put, List.setIfInBounds_toArray, List.set_cons_zero, List.set_cons_succ, List.getElem_toArray, List.getElem_cons_zero, List.getElem_cons_succ]
        refine wpQuiet_loadG (by kernel_rfl) 37 (.tmp 3) rfl ⟨g, 0, none⟩ rfl X _ (fun w' hC => KX.out w' hC) Tryd.underlying37 rfl SD.out ?_
        simp only [Act.put, List.setIfInBounds_toArray, List.set_cons_zero, List.set_cons_succ, List.getElem_toArray, List.getElem_cons_zero, List.getElem_cons_succ]
        refine wpQuiet_callG (f := 29) (xs := #[.tmp 20, .tmp 21]) #[.slice (some ⟨gF, 0, none⟩) 5 cp, .agg X.toArray] (.bool true) (by kernel_rfl) rfl Tryd.func29 (by kernel_rfl) (by kernel_rfl) (by simp [Act.eval]) (fun W hW => (CD.out W hW).mono fun e w' h => ⟨h.1, Below.trans hW (h.2.mono hW.size)⟩) ?_
        simp only [Act.put, List.setIfInBounds_toArray, List.set_cons_zero, List.set_cons_succ, List.getElem_toArray, List.getElem_cons_zero, List.getElem_cons_succ]
        refine wpQuiet_runG (v := (.bool true)) (by kernel_rfl) (fun w' hC => by rfl) ?_
        simp only [Act.put, List.setIfInBounds_toArray, List.set_cons_zero, List.set_cons_succ, List.getElem_toArray, List.getElem_cons_zero, List.getElem_cons_succ]
        refine wpQuiet_runG (v := (.bool true)) (by kernel_rfl) (fun w' hC => by rfl) ?_
        simp only [Act.put, List.setIfInBounds_toArray, List.set_cons_zero, List.set_cons_succ, List.getElem_toArray, List.getElem_cons_zero, List.getElem_cons_succ]
        refine wpQuiet_nil ?_
        intro w3 hC3
        go_wp2_with fail
        go_ret
        exact ⟨by rw [HR.out]; simp, UP.out _ hC3⟩
end Go.Proofs.YthebkckcnmjehaaDoor
