/- The reference's Day. -/
import Derived.Test.YthebkckcnmjehaaDoorYh
import Derived.Test.YthebkckcnmjehaaDoorCj
import Derived.Test.YthebkckcnmjehaaDoorYq
namespace Go.Proofs.YthebkckcnmjehaaDoor
open Go Go.RowKit
set_option linter.unusedVariables false
set_option linter.unusedSimpArgs false
/-- The reference's fields in memory. -/
def FldAt (w : World) (gF : Nat) (D : List (List Nat × Bool)) : Prop := ∀ k, k < 5 → (D.getD k ([], false)).1.length ≤ 1000000 ∧ ∃ ao c, NumRow w ao (D.getD k ([], false)).1 ∧ w.cell? ⟨gF, k * 2, none⟩ = some (.slice ao (D.getD k ([], false)).1.length c) ∧ w.cell? ⟨gF, k * 2 + 1, none⟩ = some (.bool (D.getD k ([], false)).2)
theorem FldAt.below {w w' : World} {C gF : Nat} {D : List (List Nat × Bool)} (h : FldAt w gF D) (hb : Below C w w') (hC : w.heap.size ≤ C) : FldAt w' gF D := fun k hk => by
  obtain ⟨h0, ao, c, h1, h2, h3⟩ := h k hk
  refine ⟨h0, ao, c, h1.below hb hC, ?_, ?_⟩
  · rw [hb.cell (Nat.lt_of_lt_of_le (World.block_lt_of_cell? w _ h2) hC)]; exact h2
  · rw [hb.cell (Nat.lt_of_lt_of_le (World.block_lt_of_cell? w _ h3) hC)]; exact h3
set_option maxHeartbeats 16000000 in
set_option maxRecDepth 100000 in
theorem refDay_any (gF cp : Nat) (D : List (List Nat × Bool)) (x : DateD) (hx : x.Small) (w : World) (hF : FldAt w gF D) :
    Calls Tryd.prog 29 #[.slice (some ⟨gF, 0, none⟩) 5 cp, .agg x.list.toArray] w fun e w' => e = .returned (.bool (fitsDayN D x)) ∧ Below w.heap.size w w' := by
  obtain ⟨l2, a2, c2, n2, p2, q2⟩ := hF 2 (by decide)
  obtain ⟨l3, a3, c3, n3, p3, q3⟩ := hF 3 (by decide)
  obtain ⟨l4, a4, c4, n4, p4, q4⟩ := hF 4 (by decide)
  have e0 : fitsDayN D x = ((if (D.getD 2 ([], false)).2 || (D.getD 4 ([], false)).2 then decide (x.d ∈ (D.getD 2 ([], false)).1) && decide (x.w ∈ (D.getD 4 ([], false)).1) else decide (x.d ∈ (D.getD 2 ([], false)).1) || decide (x.w ∈ (D.getD 4 ([], false)).1)) && decide (x.m ∈ (D.getD 3 ([], false)).1)) := rfl
  rw [e0]
  clear e0 hF
  generalize D.getD 2 ([], false) = F2 at *
  generalize D.getD 3 ([], false) = F3 at *
  generalize D.getD 4 ([], false) = F4 at *
  obtain ⟨L2, s2⟩ := F2
  obtain ⟨L3, s3⟩ := F3
  obtain ⟨L4, s4⟩ := F4
  dsimp only at *
  have hd := hx.d
  have hm := hx.m
  have hw := hx.w
  obtain ⟨xy, xm, xd, xh, xmi, xw⟩ := x
  dsimp only at hd hm hw ⊢
  clear hx
  obtain ⟨bd, hbd⟩ : ∃ b, b = decide (xd ∈ L2) := ⟨_, rfl⟩
  obtain ⟨bm, hbm⟩ : ∃ b, b = decide (xm ∈ L3) := ⟨_, rfl⟩
  obtain ⟨bw, hbw⟩ : ∃ b, b = decide (xw ∈ L4) := ⟨_, rfl⟩
  rw [← hbd, ← hbm, ← hbw]
  obtain ⟨r, hr⟩ : ∃ r, r = ((if s2 || s4 then bd && bw else bd || bw) && bm) := ⟨_, rfl⟩
  rw [← hr]
  have HR := Lib.hid hr
  show Calls Tryd.prog 29 #[.slice (some ⟨gF, 0, none⟩) 5 cp, .agg #[.int .i64 (xy : Int), .int .i64 (xm : Int), .int .i64 (xd : Int), .int .i64 (xh : Int), .int .i64 (xmi : Int), .int .i64 (xw : Int)]] w _
  obtain ⟨w1, hw1⟩ : ∃ w1, w1 = w.alloc (.cells #[.int .i64 (xy : Int), .int .i64 (xm : Int), .int .i64 (xd : Int), .int .i64 (xh : Int), .int .i64 (xmi : Int), .int .i64 (xw : Int)] 37) := ⟨_, rfl⟩
  obtain ⟨g, hg⟩ : ∃ g, g = w.heap.size := ⟨_, rfl⟩
  have hb1 : Below w.heap.size w w1 := by rw [hw1]; exact (Below.refl _ _).alloc (Nat.le_refl _) _
  have nk : w1.heap[g]? = some (.cells #[.int .i64 (xy : Int), .int .i64 (xm : Int), .int .i64 (xd : Int), .int .i64 (xh : Int), .int .i64 (xmi : Int), .int .i64 (xw : Int)] 37 (0, 0)) := by rw [hw1, hg]; exact heap_alloc_new _ _
  have HB1 := Lib.hid hb1
  have HW1 := Lib.hid hw1
  have HG := Lib.hid hg
  have KW := Lib.hid (show ∀ W, Below w1.heap.size w1 W → W.cell? ⟨g, 1, none⟩ = some (.int .i64 (xm : Int)) ∧ W.cell? ⟨g, 2, none⟩ = some (.int .i64 (xd : Int)) ∧ W.cell? ⟨g, 5, none⟩ = some (.int .i64 (xw : Int)) from fun W hW => by
    have h := (hW.block g (lt_of_rowW nk)).trans nk
    exact ⟨by rw [cell_of_rowW W g 1 _ _ _ h]; rfl, by rw [cell_of_rowW W g 2 _ _ _ h]; rfl, by rw [cell_of_rowW W g 5 _ _ _ h]; rfl⟩)
  have up : ∀ W, Below w1.heap.size w1 W → Below w.heap.size w W := fun W h => hb1.trans (h.mono hb1.size)
  have UP := Lib.hid up
  have cellU : ∀ (p : Addr) v, w.cell? p = some v → ∀ W, Below w1.heap.size w1 W → W.cell? p = some v := fun p v h W hW => by
    rw [(up W hW).cell (World.block_lt_of_cell? w _ h)]; exact h
  have two : ∀ (q : Nat) (v0 v1 : Value), w.cell? ⟨gF, q, none⟩ = some v0 → w.cell? ⟨gF, q + 1, none⟩ = some v1 → ∀ W, Below w1.heap.size w1 W → ∀ (j : Nat) v, [v0, v1][j]? = some v → W.cell? ((⟨gF, q, none⟩ : Addr).add j) = some v := fun q v0 v1 h0 h1 W hW j v hj => by
    match j, hj with
    | 0, hj => cases hj; exact cellU _ _ h0 W hW
    | 1, hj => cases hj; exact cellU _ _ h1 W hW
    | j + 2, hj => simp at hj
  have K2 := Lib.hid (two 4 _ _ p2 q2)
  have K3 := Lib.hid (two 6 _ _ p3 q3)
  have K4 := Lib.hid (two 8 _ _ p4 q4)
  have Q2 := Lib.hid (cellU ⟨gF, 5, none⟩ _ q2)
  have Q4 := Lib.hid (cellU ⟨gF, 9, none⟩ _ q4)
  have SF := Lib.hid (show ∀ v0 v1 : Value, (Tryd.prog.info? 67).map (·.size) = some ([v0, v1] : List Value).length from fun _ _ => by show _ = some 2; kernel_rfl)
  have CD := Lib.hid (fun W (hW : Below w1.heap.size w1 W) => refHas_any L2 l2 a2 c2 s2 xd (by omega) W (n2.below (up W hW) (Nat.le_refl _)))
  have CM := Lib.hid (fun W (hW : Below w1.heap.size w1 W) => refHas_any L3 l3 a3 c3 s3 xm (by omega) W (n3.below (up W hW) (Nat.le_refl _)))
  have CW := Lib.hid (fun W (hW : Below w1.heap.size w1 W) => refHas_any L4 l4 a4 c4 s4 xw (by omega) W (n4.below (up W hW) (Nat.le_refl _)))
  simp only [← hbd] at CD
  simp only [← hbm] at CM
  simp only [← hbw] at CW
  clear hr hw1 hg hb1 nk up cellU two p2 q2 p3 q3 p4 q4 n2 n3 n4 hbd hbm hbw l2 l3 l4
  go_enter Tryd.func29, Tryd.ntmps29
  go_upto_region 1 with fail
  rw [← HW1.out, ← HG.out]
  cases bm
  · refine wp_region_quiet_in (fun w' => Below w1.heap.size w1 w') (by kernel_rfl) (by kernel_rfl) (below_drewN (Below.refl w1.heap.size w1) 1) ?_
    refine wpQuiet_runG (v := (.slice (some ⟨gF, 0, none⟩) 5 cp)) (by kernel_rfl) (fun w' hC => by rfl) ?_
    simp only [Act.put, List.setIfInBounds_toArray, List.set_cons_zero, List.set_cons_succ, List.getElem_toArray, List.getElem_cons_zero, List.getElem_cons_succ]
    refine wpQuiet_runG (v := (.pointer (some ⟨gF, 6, none⟩))) (by kernel_rfl) (fun w' hC => by go_simp) ?_
    simp only [Act.put, List.setIfInBounds_toArray, List.set_cons_zero, List.set_cons_succ, List.getElem_toArray, List.getElem_cons_zero, List.getElem_cons_succ]
    refine wpQuiet_loadG (by kernel_rfl) 67 (.tmp 6) rfl ⟨gF, 6, none⟩ rfl [.slice a3 L3.length c3, .bool s3] _ (fun w' hC => K3.out w' hC) Tryd.underlying67 rfl (SF.out _ _) ?_
    simp only [Act.put, List.setIfInBounds_toArray, List.set_cons_zero, List.set_cons_succ, List.getElem_toArray, List.getElem_cons_zero, List.getElem_cons_succ]
    refine wpQuiet_runG (v := (.pointer (some ⟨g, 1, none⟩))) (by kernel_rfl) (fun w' hC => by go_simp) ?_
    simp only [Act.put, List.setIfInBounds_toArray, List.set_cons_zero, List.set_cons_succ, List.getElem_toArray, List.getElem_cons_zero, List.getElem_cons_succ]
    refine wpQuiet_runG (v := (.int .i64 (xm : Int))) (by kernel_rfl) (fun w' hC => by have h := (KW.out w' hC).1; go_simp) ?_
    simp only [Act.put, List.setIfInBounds_toArray, List.set_cons_zero, List.set_cons_succ, List.getElem_toArray, List.getElem_cons_zero, List.getElem_cons_succ]
    refine wpQuiet_callG (f := 28) (xs := #[.tmp 7, .tmp 9]) #[.agg #[.slice a3 L3.length c3, .bool s3], .int .i64 (xm : Int)] (.bool false) (by kernel_rfl) rfl Tryd.func28 (by kernel_rfl) (by kernel_rfl) (by simp [Act.eval]) (fun W hW => (CM.out W hW).mono fun e w' h => ⟨h.1, Below.trans hW (h.2.mono hW.size)⟩) ?_
    simp only [Act.put, List.setIfInBounds_toArray, List.set_cons_zero, List.set_cons_succ, List.getElem_toArray, List.getElem_cons_zero, List.getElem_cons_succ]
    refine wpQuiet_runG (v := (.bool true)) (by kernel_rfl) (fun w' hC => by rfl) ?_
    simp only [Act.put, List.setIfInBounds_toArray, List.set_cons_zero, List.set_cons_succ, List.getElem_toArray, List.getElem_cons_zero, List.getElem_cons_succ]
    refine wpQuiet_nil ?_
    intro w2 hC2
    go_wp2_with fail
    go_ret
    exact ⟨by rw [HR.out]; simp, UP.out _ hC2⟩
  · refine wp_region_quiet_in (fun w' => Below w1.heap.size w1 w') (by kernel_rfl) (by kernel_rfl) (below_drewN (Below.refl w1.heap.size w1) 1) ?_
    refine wpQuiet_runG (v := (.slice (some ⟨gF, 0, none⟩) 5 cp)) (by kernel_rfl) (fun w' hC => by rfl) ?_
    simp only [Act.put, List.setIfInBounds_toArray, List.set_cons_zero, List.set_cons_succ, List.getElem_toArray, List.getElem_cons_zero, List.getElem_cons_succ]
    refine wpQuiet_runG (v := (.pointer (some ⟨gF, 6, none⟩))) (by kernel_rfl) (fun w' hC => by go_simp) ?_
    simp only [Act.put, List.setIfInBounds_toArray, List.set_cons_zero, List.set_cons_succ, List.getElem_toArray, List.getElem_cons_zero, List.getElem_cons_succ]
    refine wpQuiet_loadG (by kernel_rfl) 67 (.tmp 6) rfl ⟨gF, 6, none⟩ rfl [.slice a3 L3.length c3, .bool s3] _ (fun w' hC => K3.out w' hC) Tryd.underlying67 rfl (SF.out _ _) ?_
    simp only [Act.put, List.setIfInBounds_toArray, List.set_cons_zero, List.set_cons_succ, List.getElem_toArray, List.getElem_cons_zero, List.getElem_cons_succ]
    refine wpQuiet_runG (v := (.pointer (some ⟨g, 1, none⟩))) (by kernel_rfl) (fun w' hC => by go_simp) ?_
    simp only [Act.put, List.setIfInBounds_toArray, List.set_cons_zero, List.set_cons_succ, List.getElem_toArray, List.getElem_cons_zero, List.getElem_cons_succ]
    refine wpQuiet_runG (v := (.int .i64 (xm : Int))) (by kernel_rfl) (fun w' hC => by have h := (KW.out w' hC).1; go_simp) ?_
    simp only [Act.put, List.setIfInBounds_toArray, List.set_cons_zero, List.set_cons_succ, List.getElem_toArray, List.getElem_cons_zero, List.getElem_cons_succ]
    refine wpQuiet_callG (f := 28) (xs := #[.tmp 7, .tmp 9]) #[.agg #[.slice a3 L3.length c3, .bool s3], .int .i64 (xm : Int)] (.bool true) (by kernel_rfl) rfl Tryd.func28 (by kernel_rfl) (by kernel_rfl) (by simp [Act.eval]) (fun W hW => (CM.out W hW).mono fun e w' h => ⟨h.1, Below.trans hW (h.2.mono hW.size)⟩) ?_
    simp only [Act.put, List.setIfInBounds_toArray, List.set_cons_zero, List.set_cons_succ, List.getElem_toArray, List.getElem_cons_zero, List.getElem_cons_succ]
    refine wpQuiet_runG (v := (.bool false)) (by kernel_rfl) (fun w' hC => by rfl) ?_
    simp only [Act.put, List.setIfInBounds_toArray, List.set_cons_zero, List.set_cons_succ, List.getElem_toArray, List.getElem_cons_zero, List.getElem_cons_succ]
    refine wpQuiet_nil ?_
    intro w2 hC2
    have d2 := Q2.out w2 hC2
    have d4 := Q4.out w2 hC2
    cases s2
    · cases s4
      · go_upto_region 4 with fail
        cases bd
        · cases bw
          · refine wp_region_quiet_in (fun w' => Below w1.heap.size w1 w') (by kernel_rfl) (by kernel_rfl) (below_drewN hC2 1) ?_
            refine wpQuiet_runG (v := (.slice (some ⟨gF, 0, none⟩) 5 cp)) (by kernel_rfl) (fun w' hC => by rfl) ?_
            simp only [Act.put, List.setIfInBounds_toArray, List.set_cons_zero, List.set_cons_succ, List.getElem_toArray, List.getElem_cons_zero, List.getElem_cons_succ]
            refine wpQuiet_runG (v := (.pointer (some ⟨gF, 4, none⟩))) (by kernel_rfl) (fun w' hC => by go_simp) ?_
            simp only [Act.put, List.setIfInBounds_toArray, List.set_cons_zero, List.set_cons_succ, List.getElem_toArray, List.getElem_cons_zero, List.getElem_cons_succ]
            refine wpQuiet_loadG (by kernel_rfl) 67 (.tmp 25) rfl ⟨gF, 4, none⟩ rfl [.slice a2 L2.length c2, .bool false] _ (fun w' hC => K2.out w' hC) Tryd.underlying67 rfl (SF.out _ _) ?_
            simp only [Act.put, List.setIfInBounds_toArray, List.set_cons_zero, List.set_cons_succ, List.getElem_toArray, List.getElem_cons_zero, List.getElem_cons_succ]
            refine wpQuiet_runG (v := (.pointer (some ⟨g, 2, none⟩))) (by kernel_rfl) (fun w' hC => by go_simp) ?_
            simp only [Act.put, List.setIfInBounds_toArray, List.set_cons_zero, List.set_cons_succ, List.getElem_toArray, List.getElem_cons_zero, List.getElem_cons_succ]
            refine wpQuiet_runG (v := (.int .i64 (xd : Int))) (by kernel_rfl) (fun w' hC => by have h := (KW.out w' hC).2.1; go_simp) ?_
            simp only [Act.put, List.setIfInBounds_toArray, List.set_cons_zero, List.set_cons_succ, List.getElem_toArray, List.getElem_cons_zero, List.getElem_cons_succ]
            refine wpQuiet_callG (f := 28) (xs := #[.tmp 26, .tmp 28]) #[.agg #[.slice a2 L2.length c2, .bool false], .int .i64 (xd : Int)] (.bool false) (by kernel_rfl) rfl Tryd.func28 (by kernel_rfl) (by kernel_rfl) (by simp [Act.eval]) (fun W hW => (CD.out W hW).mono fun e w' h => ⟨h.1, Below.trans hW (h.2.mono hW.size)⟩) ?_
            simp only [Act.put, List.setIfInBounds_toArray, List.set_cons_zero, List.set_cons_succ, List.getElem_toArray, List.getElem_cons_zero, List.getElem_cons_succ]
            refine wpQuiet_runG (v := (.bool false)) (by kernel_rfl) (fun w' hC => by rfl) ?_
            simp only [Act.put, List.setIfInBounds_toArray, List.set_cons_zero, List.set_cons_succ, List.getElem_toArray, List.getElem_cons_zero, List.getElem_cons_succ]
            refine wpQuiet_runG (v := (.slice (some ⟨gF, 0, none⟩) 5 cp)) (by kernel_rfl) (fun w' hC => by rfl) ?_
            simp only [Act.put, List.setIfInBounds_toArray, List.set_cons_zero, List.set_cons_succ, List.getElem_toArray, List.getElem_cons_zero, List.getElem_cons_succ]
            refine wpQuiet_runG (v := (.pointer (some ⟨gF, 8, none⟩))) (by kernel_rfl) (fun w' hC => by go_simp) ?_
            simp only [Act.put, List.setIfInBounds_toArray, List.set_cons_zero, List.set_cons_succ, List.getElem_toArray, List.getElem_cons_zero, List.getElem_cons_succ]
            refine wpQuiet_loadG (by kernel_rfl) 67 (.tmp 32) rfl ⟨gF, 8, none⟩ rfl [.slice a4 L4.length c4, .bool false] _ (fun w' hC => K4.out w' hC) Tryd.underlying67 rfl (SF.out _ _) ?_
            simp only [Act.put, List.setIfInBounds_toArray, List.set_cons_zero, List.set_cons_succ, List.getElem_toArray, List.getElem_cons_zero, List.getElem_cons_succ]
            refine wpQuiet_runG (v := (.pointer (some ⟨g, 5, none⟩))) (by kernel_rfl) (fun w' hC => by go_simp) ?_
            simp only [Act.put, List.setIfInBounds_toArray, List.set_cons_zero, List.set_cons_succ, List.getElem_toArray, List.getElem_cons_zero, List.getElem_cons_succ]
            refine wpQuiet_runG (v := (.int .i64 (xw : Int))) (by kernel_rfl) (fun w' hC => by have h := (KW.out w' hC).2.2; go_simp) ?_
            simp only [Act.put, List.setIfInBounds_toArray, List.set_cons_zero, List.set_cons_succ, List.getElem_toArray, List.getElem_cons_zero, List.getElem_cons_succ]
            refine wpQuiet_callG (f := 28) (xs := #[.tmp 33, .tmp 35]) #[.agg #[.slice a4 L4.length c4, .bool false], .int .i64 (xw : Int)] (.bool false) (by kernel_rfl) rfl Tryd.func28 (by kernel_rfl) (by kernel_rfl) (by simp [Act.eval]) (fun W hW => (CW.out W hW).mono fun e w' h => ⟨h.1, Below.trans hW (h.2.mono hW.size)⟩) ?_
            simp only [Act.put, List.setIfInBounds_toArray, List.set_cons_zero, List.set_cons_succ, List.getElem_toArray, List.getElem_cons_zero, List.getElem_cons_succ]
            refine wpQuiet_runG (v := (.bool false)) (by kernel_rfl) (fun w' hC => by rfl) ?_
            simp only [Act.put, List.setIfInBounds_toArray, List.set_cons_zero, List.set_cons_succ, List.getElem_toArray, List.getElem_cons_zero, List.getElem_cons_succ]
            refine wpQuiet_runG (v := (.bool false)) (by kernel_rfl) (fun w' hC => by rfl) ?_
            simp only [Act.put, List.setIfInBounds_toArray, List.set_cons_zero, List.set_cons_succ, List.getElem_toArray, List.getElem_cons_zero, List.getElem_cons_succ]
            refine wpQuiet_nil ?_
            intro w3 hC3
            go_wp2_with fail
            go_ret
            exact ⟨by rw [HR.out]; rfl, UP.out _ hC3⟩
          · refine wp_region_quiet_in (fun w' => Below w1.heap.size w1 w') (by kernel_rfl) (by kernel_rfl) (below_drewN hC2 1) ?_
            refine wpQuiet_runG (v := (.slice (some ⟨gF, 0, none⟩) 5 cp)) (by kernel_rfl) (fun w' hC => by rfl) ?_
            simp only [Act.put, List.setIfInBounds_toArray, List.set_cons_zero, List.set_cons_succ, List.getElem_toArray, List.getElem_cons_zero, List.getElem_cons_succ]
            refine wpQuiet_runG (v := (.pointer (some ⟨gF, 4, none⟩))) (by kernel_rfl) (fun w' hC => by go_simp) ?_
            simp only [Act.put, List.setIfInBounds_toArray, List.set_cons_zero, List.set_cons_succ, List.getElem_toArray, List.getElem_cons_zero, List.getElem_cons_succ]
            refine wpQuiet_loadG (by kernel_rfl) 67 (.tmp 25) rfl ⟨gF, 4, none⟩ rfl [.slice a2 L2.length c2, .bool false] _ (fun w' hC => K2.out w' hC) Tryd.underlying67 rfl (SF.out _ _) ?_
            simp only [Act.put, List.setIfInBounds_toArray, List.set_cons_zero, List.set_cons_succ, List.getElem_toArray, List.getElem_cons_zero, List.getElem_cons_succ]
            refine wpQuiet_runG (v := (.pointer (some ⟨g, 2, none⟩))) (by kernel_rfl) (fun w' hC => by go_simp) ?_
            simp only [Act.put, List.setIfInBounds_toArray, List.set_cons_zero, List.set_cons_succ, List.getElem_toArray, List.getElem_cons_zero, List.getElem_cons_succ]
            refine wpQuiet_runG (v := (.int .i64 (xd : Int))) (by kernel_rfl) (fun w' hC => by have h := (KW.out w' hC).2.1; go_simp) ?_
            simp only [Act.put, List.setIfInBounds_toArray, List.set_cons_zero, List.set_cons_succ, List.getElem_toArray, List.getElem_cons_zero, List.getElem_cons_succ]
            refine wpQuiet_callG (f := 28) (xs := #[.tmp 26, .tmp 28]) #[.agg #[.slice a2 L2.length c2, .bool false], .int .i64 (xd : Int)] (.bool false) (by kernel_rfl) rfl Tryd.func28 (by kernel_rfl) (by kernel_rfl) (by simp [Act.eval]) (fun W hW => (CD.out W hW).mono fun e w' h => ⟨h.1, Below.trans hW (h.2.mono hW.size)⟩) ?_
            simp only [Act.put, List.setIfInBounds_toArray, List.set_cons_zero, List.set_cons_succ, List.getElem_toArray, List.getElem_cons_zero, List.getElem_cons_succ]
            refine wpQuiet_runG (v := (.bool false)) (by kernel_rfl) (fun w' hC => by rfl) ?_
            simp only [Act.put, List.setIfInBounds_toArray, List.set_cons_zero, List.set_cons_succ, List.getElem_toArray, List.getElem_cons_zero, List.getElem_cons_succ]
            refine wpQuiet_runG (v := (.slice (some ⟨gF, 0, none⟩) 5 cp)) (by kernel_rfl) (fun w' hC => by rfl) ?_
            simp only [Act.put, List.setIfInBounds_toArray, List.set_cons_zero, List.set_cons_succ, List.getElem_toArray, List.getElem_cons_zero, List.getElem_cons_succ]
            refine wpQuiet_runG (v := (.pointer (some ⟨gF, 8, none⟩))) (by kernel_rfl) (fun w' hC => by go_simp) ?_
            simp only [Act.put, List.setIfInBounds_toArray, List.set_cons_zero, List.set_cons_succ, List.getElem_toArray, List.getElem_cons_zero, List.getElem_cons_succ]
            refine wpQuiet_loadG (by kernel_rfl) 67 (.tmp 32) rfl ⟨gF, 8, none⟩ rfl [.slice a4 L4.length c4, .bool false] _ (fun w' hC => K4.out w' hC) Tryd.underlying67 rfl (SF.out _ _) ?_
            simp only [Act.put, List.setIfInBounds_toArray, List.set_cons_zero, List.set_cons_succ, List.getElem_toArray, List.getElem_cons_zero, List.getElem_cons_succ]
            refine wpQuiet_runG (v := (.pointer (some ⟨g, 5, none⟩))) (by kernel_rfl) (fun w' hC => by go_simp) ?_
            simp only [Act.put, List.setIfInBounds_toArray, List.set_cons_zero, List.set_cons_succ, List.getElem_toArray, List.getElem_cons_zero, List.getElem_cons_succ]
            refine wpQuiet_runG (v := (.int .i64 (xw : Int))) (by kernel_rfl) (fun w' hC => by have h := (KW.out w' hC).2.2; go_simp) ?_
            simp only [Act.put, List.setIfInBounds_toArray, List.set_cons_zero, List.set_cons_succ, List.getElem_toArray, List.getElem_cons_zero, List.getElem_cons_succ]
            refine wpQuiet_callG (f := 28) (xs := #[.tmp 33, .tmp 35]) #[.agg #[.slice a4 L4.length c4, .bool false], .int .i64 (xw : Int)] (.bool true) (by kernel_rfl) rfl Tryd.func28 (by kernel_rfl) (by kernel_rfl) (by simp [Act.eval]) (fun W hW => (CW.out W hW).mono fun e w' h => ⟨h.1, Below.trans hW (h.2.mono hW.size)⟩) ?_
            simp only [Act.put, List.setIfInBounds_toArray, List.set_cons_zero, List.set_cons_succ, List.getElem_toArray, List.getElem_cons_zero, List.getElem_cons_succ]
            refine wpQuiet_runG (v := (.bool true)) (by kernel_rfl) (fun w' hC => by rfl) ?_
            simp only [Act.put, List.setIfInBounds_toArray, List.set_cons_zero, List.set_cons_succ, List.getElem_toArray, List.getElem_cons_zero, List.getElem_cons_succ]
            refine wpQuiet_runG (v := (.bool true)) (by kernel_rfl) (fun w' hC => by rfl) ?_
            simp only [Act.put, List.setIfInBounds_toArray, List.set_cons_zero, List.set_cons_succ, List.getElem_toArray, List.getElem_cons_zero, List.getElem_cons_succ]
            refine wpQuiet_nil ?_
            intro w3 hC3
            go_wp2_with fail
            go_ret
            exact ⟨by rw [HR.out]; rfl, UP.out _ hC3⟩
        · refine wp_region_quiet_in (fun w' => Below w1.heap.size w1 w') (by kernel_rfl) (by kernel_rfl) (below_drewN hC2 1) ?_
          refine wpQuiet_runG (v := (.slice (some ⟨gF, 0, none⟩) 5 cp)) (by kernel_rfl) (fun w' hC => by rfl) ?_
          simp only [Act.put, List.setIfInBounds_toArray, List.set_cons_zero, List.set_cons_succ, List.getElem_toArray, List.getElem_cons_zero, List.getElem_cons_succ]
          refine wpQuiet_runG (v := (.pointer (some ⟨gF, 4, none⟩))) (by kernel_rfl) (fun w' hC => by go_simp) ?_
          simp only [Act.put, List.setIfInBounds_toArray, List.set_cons_zero, List.set_cons_succ, List.getElem_toArray, List.getElem_cons_zero, List.getElem_cons_succ]
          refine wpQuiet_loadG (by kernel_rfl) 67 (.tmp 25) rfl ⟨gF, 4, none⟩ rfl [.slice a2 L2.length c2, .bool false] _ (fun w' hC => K2.out w' hC) Tryd.underlying67 rfl (SF.out _ _) ?_
          simp only [Act.put, List.setIfInBounds_toArray, List.set_cons_zero, List.set_cons_succ, List.getElem_toArray, List.getElem_cons_zero, List.getElem_cons_succ]
          refine wpQuiet_runG (v := (.pointer (some ⟨g, 2, none⟩))) (by kernel_rfl) (fun w' hC => by go_simp) ?_
          simp only [Act.put, List.setIfInBounds_toArray, List.set_cons_zero, List.set_cons_succ, List.getElem_toArray, List.getElem_cons_zero, List.getElem_cons_succ]
          refine wpQuiet_runG (v := (.int .i64 (xd : Int))) (by kernel_rfl) (fun w' hC => by have h := (KW.out w' hC).2.1; go_simp) ?_
          simp only [Act.put, List.setIfInBounds_toArray, List.set_cons_zero, List.set_cons_succ, List.getElem_toArray, List.getElem_cons_zero, List.getElem_cons_succ]
          refine wpQuiet_callG (f := 28) (xs := #[.tmp 26, .tmp 28]) #[.agg #[.slice a2 L2.length c2, .bool false], .int .i64 (xd : Int)] (.bool true) (by kernel_rfl) rfl Tryd.func28 (by kernel_rfl) (by kernel_rfl) (by simp [Act.eval]) (fun W hW => (CD.out W hW).mono fun e w' h => ⟨h.1, Below.trans hW (h.2.mono hW.size)⟩) ?_
          simp only [Act.put, List.setIfInBounds_toArray, List.set_cons_zero, List.set_cons_succ, List.getElem_toArray, List.getElem_cons_zero, List.getElem_cons_succ]
          refine wpQuiet_runG (v := (.bool true)) (by kernel_rfl) (fun w' hC => by rfl) ?_
          simp only [Act.put, List.setIfInBounds_toArray, List.set_cons_zero, List.set_cons_succ, List.getElem_toArray, List.getElem_cons_zero, List.getElem_cons_succ]
          refine wpQuiet_skipN 6 _ _ (by kernel_rfl) ?_
          simp only [skipAct, List.drop_succ_cons, List.drop_zero]
          simp only [Act.put, List.setIfInBounds_toArray, List.set_cons_zero, List.set_cons_succ, List.getElem_toArray, List.getElem_cons_zero, List.getElem_cons_succ]
          refine wpQuiet_runG (v := (.bool true)) (by kernel_rfl) (fun w' hC => by rfl) ?_
          simp only [Act.put, List.setIfInBounds_toArray, List.set_cons_zero, List.set_cons_succ, List.getElem_toArray, List.getElem_cons_zero, List.getElem_cons_succ]
          refine wpQuiet_runG (v := (.bool true)) (by kernel_rfl) (fun w' hC => by rfl) ?_
          simp only [Act.put, List.setIfInBounds_toArray, List.set_cons_zero, List.set_cons_succ, List.getElem_toArray, List.getElem_cons_zero, List.getElem_cons_succ]
          refine wpQuiet_nil ?_
          intro w3 hC3
          go_wp2_with fail
          go_ret
          exact ⟨by rw [HR.out]; simp, UP.out _ hC3⟩
      · go_upto_region 5 with fail
        cases bd
        · refine wp_region_quiet_in (fun w' => Below w1.heap.size w1 w') (by kernel_rfl) (by kernel_rfl) (below_drewN hC2 1) ?_
          refine wpQuiet_runG (v := (.slice (some ⟨gF, 0, none⟩) 5 cp)) (by kernel_rfl) (fun w' hC => by rfl) ?_
          simp only [Act.put, List.setIfInBounds_toArray, List.set_cons_zero, List.set_cons_succ, List.getElem_toArray, List.getElem_cons_zero, List.getElem_cons_succ]
          refine wpQuiet_runG (v := (.pointer (some ⟨gF, 4, none⟩))) (by kernel_rfl) (fun w' hC => by go_simp) ?_
          simp only [Act.put, List.setIfInBounds_toArray, List.set_cons_zero, List.set_cons_succ, List.getElem_toArray, List.getElem_cons_zero, List.getElem_cons_succ]
          refine wpQuiet_loadG (by kernel_rfl) 67 (.tmp 39) rfl ⟨gF, 4, none⟩ rfl [.slice a2 L2.length c2, .bool false] _ (fun w' hC => K2.out w' hC) Tryd.underlying67 rfl (SF.out _ _) ?_
          simp only [Act.put, List.setIfInBounds_toArray, List.set_cons_zero, List.set_cons_succ, List.getElem_toArray, List.getElem_cons_zero, List.getElem_cons_succ]
          refine wpQuiet_runG (v := (.pointer (some ⟨g, 2, none⟩))) (by kernel_rfl) (fun w' hC => by go_simp) ?_
          simp only [Act.put, List.setIfInBounds_toArray, List.set_cons_zero, List.set_cons_succ, List.getElem_toArray, List.getElem_cons_zero, List.getElem_cons_succ]
          refine wpQuiet_runG (v := (.int .i64 (xd : Int))) (by kernel_rfl) (fun w' hC => by have h := (KW.out w' hC).2.1; go_simp) ?_
          simp only [Act.put, List.setIfInBounds_toArray, List.set_cons_zero, List.set_cons_succ, List.getElem_toArray, List.getElem_cons_zero, List.getElem_cons_succ]
          refine wpQuiet_callG (f := 28) (xs := #[.tmp 40, .tmp 42]) #[.agg #[.slice a2 L2.length c2, .bool false], .int .i64 (xd : Int)] (.bool false) (by kernel_rfl) rfl Tryd.func28 (by kernel_rfl) (by kernel_rfl) (by simp [Act.eval]) (fun W hW => (CD.out W hW).mono fun e w' h => ⟨h.1, Below.trans hW (h.2.mono hW.size)⟩) ?_
          simp only [Act.put, List.setIfInBounds_toArray, List.set_cons_zero, List.set_cons_succ, List.getElem_toArray, List.getElem_cons_zero, List.getElem_cons_succ]
          refine wpQuiet_runG (v := (.bool false)) (by kernel_rfl) (fun w' hC => by rfl) ?_
          simp only [Act.put, List.setIfInBounds_toArray, List.set_cons_zero, List.set_cons_succ, List.getElem_toArray, List.getElem_cons_zero, List.getElem_cons_succ]
          refine wpQuiet_skipN 6 _ _ (by kernel_rfl) ?_
          simp only [skipAct, List.drop_succ_cons, List.drop_zero]
          simp only [Act.put, List.setIfInBounds_toArray, List.set_cons_zero, List.set_cons_succ, List.getElem_toArray, List.getElem_cons_zero, List.getElem_cons_succ]
          refine wpQuiet_runG (v := (.bool false)) (by kernel_rfl) (fun w' hC => by rfl) ?_
          simp only [Act.put, List.setIfInBounds_toArray, List.set_cons_zero, List.set_cons_succ, List.getElem_toArray, List.getElem_cons_zero, List.getElem_cons_succ]
          refine wpQuiet_runG (v := (.bool false)) (by kernel_rfl) (fun w' hC => by rfl) ?_
          simp only [Act.put, List.setIfInBounds_toArray, List.set_cons_zero, List.set_cons_succ, List.getElem_toArray, List.getElem_cons_zero, List.getElem_cons_succ]
          refine wpQuiet_nil ?_
          intro w3 hC3
          go_wp2_with fail
          go_ret
          exact ⟨by rw [HR.out]; simp, UP.out _ hC3⟩
        · cases bw
          · refine wp_region_quiet_in (fun w' => Below w1.heap.size w1 w') (by kernel_rfl) (by kernel_rfl) (below_drewN hC2 1) ?_
            refine wpQuiet_runG (v := (.slice (some ⟨gF, 0, none⟩) 5 cp)) (by kernel_rfl) (fun w' hC => by rfl) ?_
            simp only [Act.put, List.setIfInBounds_toArray, List.set_cons_zero, List.set_cons_succ, List.getElem_toArray, List.getElem_cons_zero, List.getElem_cons_succ]
            refine wpQuiet_runG (v := (.pointer (some ⟨gF, 4, none⟩))) (by kernel_rfl) (fun w' hC => by go_simp) ?_
            simp only [Act.put, List.setIfInBounds_toArray, List.set_cons_zero, List.set_cons_succ, List.getElem_toArray, List.getElem_cons_zero, List.getElem_cons_succ]
            refine wpQuiet_loadG (by kernel_rfl) 67 (.tmp 39) rfl ⟨gF, 4, none⟩ rfl [.slice a2 L2.length c2, .bool false] _ (fun w' hC => K2.out w' hC) Tryd.underlying67 rfl (SF.out _ _) ?_
            simp only [Act.put, List.setIfInBounds_toArray, List.set_cons_zero, List.set_cons_succ, List.getElem_toArray, List.getElem_cons_zero, List.getElem_cons_succ]
            refine wpQuiet_runG (v := (.pointer (some ⟨g, 2, none⟩))) (by kernel_rfl) (fun w' hC => by go_simp) ?_
            simp only [Act.put, List.setIfInBounds_toArray, List.set_cons_zero, List.set_cons_succ, List.getElem_toArray, List.getElem_cons_zero, List.getElem_cons_succ]
            refine wpQuiet_runG (v := (.int .i64 (xd : Int))) (by kernel_rfl) (fun w' hC => by have h := (KW.out w' hC).2.1; go_simp) ?_
            simp only [Act.put, List.setIfInBounds_toArray, List.set_cons_zero, List.set_cons_succ, List.getElem_toArray, List.getElem_cons_zero, List.getElem_cons_succ]
            refine wpQuiet_callG (f := 28) (xs := #[.tmp 40, .tmp 42]) #[.agg #[.slice a2 L2.length c2, .bool false], .int .i64 (xd : Int)] (.bool true) (by kernel_rfl) rfl Tryd.func28 (by kernel_rfl) (by kernel_rfl) (by simp [Act.eval]) (fun W hW => (CD.out W hW).mono fun e w' h => ⟨h.1, Below.trans hW (h.2.mono hW.size)⟩) ?_
            simp only [Act.put, List.setIfInBounds_toArray, List.set_cons_zero, List.set_cons_succ, List.getElem_toArray, List.getElem_cons_zero, List.getElem_cons_succ]
            refine wpQuiet_runG (v := (.bool true)) (by kernel_rfl) (fun w' hC => by rfl) ?_
            simp only [Act.put, List.setIfInBounds_toArray, List.set_cons_zero, List.set_cons_succ, List.getElem_toArray, List.getElem_cons_zero, List.getElem_cons_succ]
            refine wpQuiet_runG (v := (.slice (some ⟨gF, 0, none⟩) 5 cp)) (by kernel_rfl) (fun w' hC => by rfl) ?_
            simp only [Act.put, List.setIfInBounds_toArray, List.set_cons_zero, List.set_cons_succ, List.getElem_toArray, List.getElem_cons_zero, List.getElem_cons_succ]
            refine wpQuiet_runG (v := (.pointer (some ⟨gF, 8, none⟩))) (by kernel_rfl) (fun w' hC => by go_simp) ?_
            simp only [Act.put, List.setIfInBounds_toArray, List.set_cons_zero, List.set_cons_succ, List.getElem_toArray, List.getElem_cons_zero, List.getElem_cons_succ]
            refine wpQuiet_loadG (by kernel_rfl) 67 (.tmp 46) rfl ⟨gF, 8, none⟩ rfl [.slice a4 L4.length c4, .bool true] _ (fun w' hC => K4.out w' hC) Tryd.underlying67 rfl (SF.out _ _) ?_
            simp only [Act.put, List.setIfInBounds_toArray, List.set_cons_zero, List.set_cons_succ, List.getElem_toArray, List.getElem_cons_zero, List.getElem_cons_succ]
            refine wpQuiet_runG (v := (.pointer (some ⟨g, 5, none⟩))) (by kernel_rfl) (fun w' hC => by go_simp) ?_
            simp only [Act.put, List.setIfInBounds_toArray, List.set_cons_zero, List.set_cons_succ, List.getElem_toArray, List.getElem_cons_zero, List.getElem_cons_succ]
            refine wpQuiet_runG (v := (.int .i64 (xw : Int))) (by kernel_rfl) (fun w' hC => by have h := (KW.out w' hC).2.2; go_simp) ?_
            simp only [Act.put, List.setIfInBounds_toArray, List.set_cons_zero, List.set_cons_succ, List.getElem_toArray, List.getElem_cons_zero, List.getElem_cons_succ]
            refine wpQuiet_callG (f := 28) (xs := #[.tmp 47, .tmp 49]) #[.agg #[.slice a4 L4.length c4, .bool true], .int .i64 (xw : Int)] (.bool false) (by kernel_rfl) rfl Tryd.func28 (by kernel_rfl) (by kernel_rfl) (by simp [Act.eval]) (fun W hW => (CW.out W hW).mono fun e w' h => ⟨h.1, Below.trans hW (h.2.mono hW.size)⟩) ?_
            simp only [Act.put, List.setIfInBounds_toArray, List.set_cons_zero, List.set_cons_succ, List.getElem_toArray, List.getElem_cons_zero, List.getElem_cons_succ]
            refine wpQuiet_runG (v := (.bool false)) (by kernel_rfl) (fun w' hC => by rfl) ?_
            simp only [Act.put, List.setIfInBounds_toArray, List.set_cons_zero, List.set_cons_succ, List.getElem_toArray, List.getElem_cons_zero, List.getElem_cons_succ]
            refine wpQuiet_runG (v := (.bool false)) (by kernel_rfl) (fun w' hC => by rfl) ?_
            simp only [Act.put, List.setIfInBounds_toArray, List.set_cons_zero, List.set_cons_succ, List.getElem_toArray, List.getElem_cons_zero, List.getElem_cons_succ]
            refine wpQuiet_nil ?_
            intro w3 hC3
            go_wp2_with fail
            go_ret
            exact ⟨by rw [HR.out]; rfl, UP.out _ hC3⟩
          · refine wp_region_quiet_in (fun w' => Below w1.heap.size w1 w') (by kernel_rfl) (by kernel_rfl) (below_drewN hC2 1) ?_
            refine wpQuiet_runG (v := (.slice (some ⟨gF, 0, none⟩) 5 cp)) (by kernel_rfl) (fun w' hC => by rfl) ?_
            simp only [Act.put, List.setIfInBounds_toArray, List.set_cons_zero, List.set_cons_succ, List.getElem_toArray, List.getElem_cons_zero, List.getElem_cons_succ]
            refine wpQuiet_runG (v := (.pointer (some ⟨gF, 4, none⟩))) (by kernel_rfl) (fun w' hC => by go_simp) ?_
            simp only [Act.put, List.setIfInBounds_toArray, List.set_cons_zero, List.set_cons_succ, List.getElem_toArray, List.getElem_cons_zero, List.getElem_cons_succ]
            refine wpQuiet_loadG (by kernel_rfl) 67 (.tmp 39) rfl ⟨gF, 4, none⟩ rfl [.slice a2 L2.length c2, .bool false] _ (fun w' hC => K2.out w' hC) Tryd.underlying67 rfl (SF.out _ _) ?_
            simp only [Act.put, List.setIfInBounds_toArray, List.set_cons_zero, List.set_cons_succ, List.getElem_toArray, List.getElem_cons_zero, List.getElem_cons_succ]
            refine wpQuiet_runG (v := (.pointer (some ⟨g, 2, none⟩))) (by kernel_rfl) (fun w' hC => by go_simp) ?_
            simp only [Act.put, List.setIfInBounds_toArray, List.set_cons_zero, List.set_cons_succ, List.getElem_toArray, List.getElem_cons_zero, List.getElem_cons_succ]
            refine wpQuiet_runG (v := (.int .i64 (xd : Int))) (by kernel_rfl) (fun w' hC => by have h := (KW.out w' hC).2.1; go_simp) ?_
            simp only [Act.put, List.setIfInBounds_toArray, List.set_cons_zero, List.set_cons_succ, List.getElem_toArray, List.getElem_cons_zero, List.getElem_cons_succ]
            refine wpQuiet_callG (f := 28) (xs := #[.tmp 40, .tmp 42]) #[.agg #[.slice a2 L2.length c2, .bool false], .int .i64 (xd : Int)] (.bool true) (by kernel_rfl) rfl Tryd.func28 (by kernel_rfl) (by kernel_rfl) (by simp [Act.eval]) (fun W hW => (CD.out W hW).mono fun e w' h => ⟨h.1, Below.trans hW (h.2.mono hW.size)⟩) ?_
            simp only [Act.put, List.setIfInBounds_toArray, List.set_cons_zero, List.set_cons_succ, List.getElem_toArray, List.getElem_cons_zero, List.getElem_cons_succ]
            refine wpQuiet_runG (v := (.bool true)) (by kernel_rfl) (fun w' hC => by rfl) ?_
            simp only [Act.put, List.setIfInBounds_toArray, List.set_cons_zero, List.set_cons_succ, List.getElem_toArray, List.getElem_cons_zero, List.getElem_cons_succ]
            refine wpQuiet_runG (v := (.slice (some ⟨gF, 0, none⟩) 5 cp)) (by kernel_rfl) (fun w' hC => by rfl) ?_
            simp only [Act.put, List.setIfInBounds_toArray, List.set_cons_zero, List.set_cons_succ, List.getElem_toArray, List.getElem_cons_zero, List.getElem_cons_succ]
            refine wpQuiet_runG (v := (.pointer (some ⟨gF, 8, none⟩))) (by kernel_rfl) (fun w' hC => by go_simp) ?_
            simp only [Act.put, List.setIfInBounds_toArray, List.set_cons_zero, List.set_cons_succ, List.getElem_toArray, List.getElem_cons_zero, List.getElem_cons_succ]
            refine wpQuiet_loadG (by kernel_rfl) 67 (.tmp 46) rfl ⟨gF, 8, none⟩ rfl [.slice a4 L4.length c4, .bool true] _ (fun w' hC => K4.out w' hC) Tryd.underlying67 rfl (SF.out _ _) ?_
            simp only [Act.put, List.setIfInBounds_toArray, List.set_cons_zero, List.set_cons_succ, List.getElem_toArray, List.getElem_cons_zero, List.getElem_cons_succ]
            refine wpQuiet_runG (v := (.pointer (some ⟨g, 5, none⟩))) (by kernel_rfl) (fun w' hC => by go_simp) ?_
            simp only [Act.put, List.setIfInBounds_toArray, List.set_cons_zero, List.set_cons_succ, List.getElem_toArray, List.getElem_cons_zero, List.getElem_cons_succ]
            refine wpQuiet_runG (v := (.int .i64 (xw : Int))) (by kernel_rfl) (fun w' hC => by have h := (KW.out w' hC).2.2; go_simp) ?_
            simp only [Act.put, List.setIfInBounds_toArray, List.set_cons_zero, List.set_cons_succ, List.getElem_toArray, List.getElem_cons_zero, List.getElem_cons_succ]
            refine wpQuiet_callG (f := 28) (xs := #[.tmp 47, .tmp 49]) #[.agg #[.slice a4 L4.length c4, .bool true], .int .i64 (xw : Int)] (.bool true) (by kernel_rfl) rfl Tryd.func28 (by kernel_rfl) (by kernel_rfl) (by simp [Act.eval]) (fun W hW => (CW.out W hW).mono fun e w' h => ⟨h.1, Below.trans hW (h.2.mono hW.size)⟩) ?_
            simp only [Act.put, List.setIfInBounds_toArray, List.set_cons_zero, List.set_cons_succ, List.getElem_toArray, List.getElem_cons_zero, List.getElem_cons_succ]
            refine wpQuiet_runG (v := (.bool true)) (by kernel_rfl) (fun w' hC => by rfl) ?_
            simp only [Act.put, List.setIfInBounds_toArray, List.set_cons_zero, List.set_cons_succ, List.getElem_toArray, List.getElem_cons_zero, List.getElem_cons_succ]
            refine wpQuiet_runG (v := (.bool true)) (by kernel_rfl) (fun w' hC => by rfl) ?_
            simp only [Act.put, List.setIfInBounds_toArray, List.set_cons_zero, List.set_cons_succ, List.getElem_toArray, List.getElem_cons_zero, List.getElem_cons_succ]
            refine wpQuiet_nil ?_
            intro w3 hC3
            go_wp2_with fail
            go_ret
            exact ⟨by rw [HR.out]; rfl, UP.out _ hC3⟩
    · go_upto_region 5 with fail
      cases bd
      · refine wp_region_quiet_in (fun w' => Below w1.heap.size w1 w') (by kernel_rfl) (by kernel_rfl) (below_drewN hC2 1) ?_
        refine wpQuiet_runG (v := (.slice (some ⟨gF, 0, none⟩) 5 cp)) (by kernel_rfl) (fun w' hC => by rfl) ?_
        simp only [Act.put, List.setIfInBounds_toArray, List.set_cons_zero, List.set_cons_succ, List.getElem_toArray, List.getElem_cons_zero, List.getElem_cons_succ]
        refine wpQuiet_runG (v := (.pointer (some ⟨gF, 4, none⟩))) (by kernel_rfl) (fun w' hC => by go_simp) ?_
        simp only [Act.put, List.setIfInBounds_toArray, List.set_cons_zero, List.set_cons_succ, List.getElem_toArray, List.getElem_cons_zero, List.getElem_cons_succ]
        refine wpQuiet_loadG (by kernel_rfl) 67 (.tmp 39) rfl ⟨gF, 4, none⟩ rfl [.slice a2 L2.length c2, .bool true] _ (fun w' hC => K2.out w' hC) Tryd.underlying67 rfl (SF.out _ _) ?_
        simp only [Act.put, List.setIfInBounds_toArray, List.set_cons_zero, List.set_cons_succ, List.getElem_toArray, List.getElem_cons_zero, List.getElem_cons_succ]
        refine wpQuiet_runG (v := (.pointer (some ⟨g, 2, none⟩))) (by kernel_rfl) (fun w' hC => by go_simp) ?_
        simp only [Act.put, List.setIfInBounds_toArray, List.set_cons_zero, List.set_cons_succ, List.getElem_toArray, List.getElem_cons_zero, List.getElem_cons_succ]
        refine wpQuiet_runG (v := (.int .i64 (xd : Int))) (by kernel_rfl) (fun w' hC => by have h := (KW.out w' hC).2.1; go_simp) ?_
        simp only [Act.put, List.setIfInBounds_toArray, List.set_cons_zero, List.set_cons_succ, List.getElem_toArray, List.getElem_cons_zero, List.getElem_cons_succ]
        refine wpQuiet_callG (f := 28) (xs := #[.tmp 40, .tmp 42]) #[.agg #[.slice a2 L2.length c2, .bool true], .int .i64 (xd : Int)] (.bool false) (by kernel_rfl) rfl Tryd.func28 (by kernel_rfl) (by kernel_rfl) (by simp [Act.eval]) (fun W hW => (CD.out W hW).mono fun e w' h => ⟨h.1, Below.trans hW (h.2.mono hW.size)⟩) ?_
        simp only [Act.put, List.setIfInBounds_toArray, List.set_cons_zero, List.set_cons_succ, List.getElem_toArray, List.getElem_cons_zero, List.getElem_cons_succ]
        refine wpQuiet_runG (v := (.bool false)) (by kernel_rfl) (fun w' hC => by rfl) ?_
        simp only [Act.put, List.setIfInBounds_toArray, List.set_cons_zero, List.set_cons_succ, List.getElem_toArray, List.getElem_cons_zero, List.getElem_cons_succ]
        refine wpQuiet_skipN 6 _ _ (by kernel_rfl) ?_
        simp only [skipAct, List.drop_succ_cons, List.drop_zero]
        simp only [Act.put, List.setIfInBounds_toArray, List.set_cons_zero, List.set_cons_succ, List.getElem_toArray, List.getElem_cons_zero, List.getElem_cons_succ]
        refine wpQuiet_runG (v := (.bool false)) (by kernel_rfl) (fun w' hC => by rfl) ?_
        simp only [Act.put, List.setIfInBounds_toArray, List.set_cons_zero, List.set_cons_succ, List.getElem_toArray, List.getElem_cons_zero, List.getElem_cons_succ]
        refine wpQuiet_runG (v := (.bool false)) (by kernel_rfl) (fun w' hC => by rfl) ?_
        simp only [Act.put, List.setIfInBounds_toArray, List.set_cons_zero, List.set_cons_succ, List.getElem_toArray, List.getElem_cons_zero, List.getElem_cons_succ]
        refine wpQuiet_nil ?_
        intro w3 hC3
        go_wp2_with fail
        go_ret
        exact ⟨by rw [HR.out]; simp, UP.out _ hC3⟩
      · cases bw
        · refine wp_region_quiet_in (fun w' => Below w1.heap.size w1 w') (by kernel_rfl) (by kernel_rfl) (below_drewN hC2 1) ?_
          refine wpQuiet_runG (v := (.slice (some ⟨gF, 0, none⟩) 5 cp)) (by kernel_rfl) (fun w' hC => by rfl) ?_
          simp only [Act.put, List.setIfInBounds_toArray, List.set_cons_zero, List.set_cons_succ, List.getElem_toArray, List.getElem_cons_zero, List.getElem_cons_succ]
          refine wpQuiet_runG (v := (.pointer (some ⟨gF, 4, none⟩))) (by kernel_rfl) (fun w' hC => by go_simp) ?_
          simp only [Act.put, List.setIfInBounds_toArray, List.set_cons_zero, List.set_cons_succ, List.getElem_toArray, List.getElem_cons_zero, List.getElem_cons_succ]
          refine wpQuiet_loadG (by kernel_rfl) 67 (.tmp 39) rfl ⟨gF, 4, none⟩ rfl [.slice a2 L2.length c2, .bool true] _ (fun w' hC => K2.out w' hC) Tryd.underlying67 rfl (SF.out _ _) ?_
          simp only [Act.put, List.setIfInBounds_toArray, List.set_cons_zero, List.set_cons_succ, List.getElem_toArray, List.getElem_cons_zero, List.getElem_cons_succ]
          refine wpQuiet_runG (v := (.pointer (some ⟨g, 2, none⟩))) (by kernel_rfl) (fun w' hC => by go_simp) ?_
          simp only [Act.put, List.setIfInBounds_toArray, List.set_cons_zero, List.set_cons_succ, List.getElem_toArray, List.getElem_cons_zero, List.getElem_cons_succ]
          refine wpQuiet_runG (v := (.int .i64 (xd : Int))) (by kernel_rfl) (fun w' hC => by have h := (KW.out w' hC).2.1; go_simp) ?_
          simp only [Act.put, List.setIfInBounds_toArray, List.set_cons_zero, List.set_cons_succ, List.getElem_toArray, List.getElem_cons_zero, List.getElem_cons_succ]
          refine wpQuiet_callG (f := 28) (xs := #[.tmp 40, .tmp 42]) #[.agg #[.slice a2 L2.length c2, .bool true], .int .i64 (xd : Int)] (.bool true) (by kernel_rfl) rfl Tryd.func28 (by kernel_rfl) (by kernel_rfl) (by simp [Act.eval]) (fun W hW => (CD.out W hW).mono fun e w' h => ⟨h.1, Below.trans hW (h.2.mono hW.size)⟩) ?_
          simp only [Act.put, List.setIfInBounds_toArray, List.set_cons_zero, List.set_cons_succ, List.getElem_toArray, List.getElem_cons_zero, List.getElem_cons_succ]
          refine wpQuiet_runG (v := (.bool true)) (by kernel_rfl) (fun w' hC => by rfl) ?_
          simp only [Act.put, List.setIfInBounds_toArray, List.set_cons_zero, List.set_cons_succ, List.getElem_toArray, List.getElem_cons_zero, List.getElem_cons_succ]
          refine wpQuiet_runG (v := (.slice (some ⟨gF, 0, none⟩) 5 cp)) (by kernel_rfl) (fun w' hC => by rfl) ?_
          simp only [Act.put, List.setIfInBounds_toArray, List.set_cons_zero, List.set_cons_succ, List.getElem_toArray, List.getElem_cons_zero, List.getElem_cons_succ]
          refine wpQuiet_runG (v := (.pointer (some ⟨gF, 8, none⟩))) (by kernel_rfl) (fun w' hC => by go_simp) ?_
          simp only [Act.put, List.setIfInBounds_toArray, List.set_cons_zero, List.set_cons_succ, List.getElem_toArray, List.getElem_cons_zero, List.getElem_cons_succ]
          refine wpQuiet_loadG (by kernel_rfl) 67 (.tmp 46) rfl ⟨gF, 8, none⟩ rfl [.slice a4 L4.length c4, .bool s4] _ (fun w' hC => K4.out w' hC) Tryd.underlying67 rfl (SF.out _ _) ?_
          simp only [Act.put, List.setIfInBounds_toArray, List.set_cons_zero, List.set_cons_succ, List.getElem_toArray, List.getElem_cons_zero, List.getElem_cons_succ]
          refine wpQuiet_runG (v := (.pointer (some ⟨g, 5, none⟩))) (by kernel_rfl) (fun w' hC => by go_simp) ?_
          simp only [Act.put, List.setIfInBounds_toArray, List.set_cons_zero, List.set_cons_succ, List.getElem_toArray, List.getElem_cons_zero, List.getElem_cons_succ]
          refine wpQuiet_runG (v := (.int .i64 (xw : Int))) (by kernel_rfl) (fun w' hC => by have h := (KW.out w' hC).2.2; go_simp) ?_
          simp only [Act.put, List.setIfInBounds_toArray, List.set_cons_zero, List.set_cons_succ, List.getElem_toArray, List.getElem_cons_zero, List.getElem_cons_succ]
          refine wpQuiet_callG (f := 28) (xs := #[.tmp 47, .tmp 49]) #[.agg #[.slice a4 L4.length c4, .bool s4], .int .i64 (xw : Int)] (.bool false) (by kernel_rfl) rfl Tryd.func28 (by kernel_rfl) (by kernel_rfl) (by simp [Act.eval]) (fun W hW => (CW.out W hW).mono fun e w' h => ⟨h.1, Below.trans hW (h.2.mono hW.size)⟩) ?_
          simp only [Act.put, List.setIfInBounds_toArray, List.set_cons_zero, List.set_cons_succ, List.getElem_toArray, List.getElem_cons_zero, List.getElem_cons_succ]
          refine wpQuiet_runG (v := (.bool false)) (by kernel_rfl) (fun w' hC => by rfl) ?_
          simp only [Act.put, List.setIfInBounds_toArray, List.set_cons_zero, List.set_cons_succ, List.getElem_toArray, List.getElem_cons_zero, List.getElem_cons_succ]
          refine wpQuiet_runG (v := (.bool false)) (by kernel_rfl) (fun w' hC => by rfl) ?_
          simp only [Act.put, List.setIfInBounds_toArray, List.set_cons_zero, List.set_cons_succ, List.getElem_toArray, List.getElem_cons_zero, List.getElem_cons_succ]
          refine wpQuiet_nil ?_
          intro w3 hC3
          go_wp2_with fail
          go_ret
          exact ⟨by rw [HR.out]; rfl, UP.out _ hC3⟩
        · refine wp_region_quiet_in (fun w' => Below w1.heap.size w1 w') (by kernel_rfl) (by kernel_rfl) (below_drewN hC2 1) ?_
          refine wpQuiet_runG (v := (.slice (some ⟨gF, 0, none⟩) 5 cp)) (by kernel_rfl) (fun w' hC => by rfl) ?_
          simp only [Act.put, List.setIfInBounds_toArray, List.set_cons_zero, List.set_cons_succ, List.getElem_toArray, List.getElem_cons_zero, List.getElem_cons_succ]
          refine wpQuiet_runG (v := (.pointer (some ⟨gF, 4, none⟩))) (by kernel_rfl) (fun w' hC => by go_simp) ?_
          simp only [Act.put, List.setIfInBounds_toArray, List.set_cons_zero, List.set_cons_succ, List.getElem_toArray, List.getElem_cons_zero, List.getElem_cons_succ]
          refine wpQuiet_loadG (by kernel_rfl) 67 (.tmp 39) rfl ⟨gF, 4, none⟩ rfl [.slice a2 L2.length c2, .bool true] _ (fun w' hC => K2.out w' hC) Tryd.underlying67 rfl (SF.out _ _) ?_
          simp only [Act.put, List.setIfInBounds_toArray, List.set_cons_zero, List.set_cons_succ, List.getElem_toArray, List.getElem_cons_zero, List.getElem_cons_succ]
          refine wpQuiet_runG (v := (.pointer (some ⟨g, 2, none⟩))) (by kernel_rfl) (fun w' hC => by go_simp) ?_
          simp only [Act.put, List.setIfInBounds_toArray, List.set_cons_zero, List.set_cons_succ, List.getElem_toArray, List.getElem_cons_zero, List.getElem_cons_succ]
          refine wpQuiet_runG (v := (.int .i64 (xd : Int))) (by kernel_rfl) (fun w' hC => by have h := (KW.out w' hC).2.1; go_simp) ?_
          simp only [Act.put, List.setIfInBounds_toArray, List.set_cons_zero, List.set_cons_succ, List.getElem_toArray, List.getElem_cons_zero, List.getElem_cons_succ]
          refine wpQuiet_callG (f := 28) (xs := #[.tmp 40, .tmp 42]) #[.agg #[.slice a2 L2.length c2, .bool true], .int .i64 (xd : Int)] (.bool true) (by kernel_rfl) rfl Tryd.func28 (by kernel_rfl) (by kernel_rfl) (by simp [Act.eval]) (fun W hW => (CD.out W hW).mono fun e w' h => ⟨h.1, Below.trans hW (h.2.mono hW.size)⟩) ?_
          simp only [Act.put, List.setIfInBounds_toArray, List.set_cons_zero, List.set_cons_succ, List.getElem_toArray, List.getElem_cons_zero, List.getElem_cons_succ]
          refine wpQuiet_runG (v := (.bool true)) (by kernel_rfl) (fun w' hC => by rfl) ?_
          simp only [Act.put, List.setIfInBounds_toArray, List.set_cons_zero, List.set_cons_succ, List.getElem_toArray, List.getElem_cons_zero, List.getElem_cons_succ]
          refine wpQuiet_runG (v := (.slice (some ⟨gF, 0, none⟩) 5 cp)) (by kernel_rfl) (fun w' hC => by rfl) ?_
          simp only [Act.put, List.setIfInBounds_toArray, List.set_cons_zero, List.set_cons_succ, List.getElem_toArray, List.getElem_cons_zero, List.getElem_cons_succ]
          refine wpQuiet_runG (v := (.pointer (some ⟨gF, 8, none⟩))) (by kernel_rfl) (fun w' hC => by go_simp) ?_
          simp only [Act.put, List.setIfInBounds_toArray, List.set_cons_zero, List.set_cons_succ, List.getElem_toArray, List.getElem_cons_zero, List.getElem_cons_succ]
          refine wpQuiet_loadG (by kernel_rfl) 67 (.tmp 46) rfl ⟨gF, 8, none⟩ rfl [.slice a4 L4.length c4, .bool s4] _ (fun w' hC => K4.out w' hC) Tryd.underlying67 rfl (SF.out _ _) ?_
          simp only [Act.put, List.setIfInBounds_toArray, List.set_cons_zero, List.set_cons_succ, List.getElem_toArray, List.getElem_cons_zero, List.getElem_cons_succ]
          refine wpQuiet_runG (v := (.pointer (some ⟨g, 5, none⟩))) (by kernel_rfl) (fun w' hC => by go_simp) ?_
          simp only [Act.put, List.setIfInBounds_toArray, List.set_cons_zero, List.set_cons_succ, List.getElem_toArray, List.getElem_cons_zero, List.getElem_cons_succ]
          refine wpQuiet_runG (v := (.int .i64 (xw : Int))) (by kernel_rfl) (fun w' hC => by have h := (KW.out w' hC).2.2; go_simp) ?_
          simp only [Act.put, List.setIfInBounds_toArray, List.set_cons_zero, List.set_cons_succ, List.getElem_toArray, List.getElem_cons_zero, List.getElem_cons_succ]
          refine wpQuiet_callG (f := 28) (xs := #[.tmp 47, .tmp 49]) #[.agg #[.slice a4 L4.length c4, .bool s4], .int .i64 (xw : Int)] (.bool true) (by kernel_rfl) rfl Tryd.func28 (by kernel_rfl) (by kernel_rfl) (by simp [Act.eval]) (fun W hW => (CW.out W hW).mono fun e w' h => ⟨h.1, Below.trans hW (h.2.mono hW.size)⟩) ?_
          simp only [Act.put, List.setIfInBounds_toArray, List.set_cons_zero, List.set_cons_succ, List.getElem_toArray, List.getElem_cons_zero, List.getElem_cons_succ]
          refine wpQuiet_runG (v := (.bool true)) (by kernel_rfl) (fun w' hC => by rfl) ?_
          simp only [Act.put, List.setIfInBounds_toArray, List.set_cons_zero, List.set_cons_succ, List.getElem_toArray, List.getElem_cons_zero, List.getElem_cons_succ]
          refine wpQuiet_runG (v := (.bool true)) (by kernel_rfl) (fun w' hC => by rfl) ?_
          simp only [Act.put, List.setIfInBounds_toArray, List.set_cons_zero, List.set_cons_succ, List.getElem_toArray, List.getElem_cons_zero, List.getElem_cons_succ]
          refine wpQuiet_nil ?_
          intro w3 hC3
          go_wp2_with fail
          go_ret
          exact ⟨by rw [HR.out]; rfl, UP.out _ hC3⟩
end Go.Proofs.YthebkckcnmjehaaDoor
