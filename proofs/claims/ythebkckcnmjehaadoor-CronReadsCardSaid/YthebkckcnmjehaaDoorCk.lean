/- Fits, Text. -/
import Derived.Test.YthebkckcnmjehaaDoorCj
import Derived.Test.YthebkckcnmjehaaDoorCq
namespace Go.Proofs.YthebkckcnmjehaaDoor
open Go Go.RowKit
set_option linter.unusedVariables false
set_option linter.unusedSimpArgs false
set_option maxHeartbeats 4000000 in
theorem fits_any (g : Nat) (l : List UInt8) (D : List (List Nat × Bool)) (x : DateD) (hx : x.Small) (w : World) (hS : SpecAt w g l D) :
    Calls Tryd.prog 14 #[.pointer (some ⟨g, 0, none⟩), .agg x.list.toArray] w fun e w' => e = .returned (.bool (fitsN D x)) ∧ Below w.heap.size w w' := by
  have fc := fun W (h : Below w.heap.size w W) => fitsDay_any g l D x hx W (hS.below h)
  obtain ⟨fd, hfd⟩ : ∃ b, b = fitsDayN D x := ⟨_, rfl⟩
  unfold fitsN
  rw [← hfd]
  simp only [← hfd] at fc
  clear hfd
  obtain ⟨⟨L0, s0⟩, ⟨L1, s1⟩, ⟨L2, s2⟩, ⟨L3, s3⟩, ⟨L4, s4⟩, rfl⟩ := hS.five
  have hlt := hS.lt
  have m0 := has_any L0 (hlt (L0, s0) (by simp)) s0 x.mi hx.mi
  have m1 := has_any L1 (hlt (L1, s1) (by simp)) s1 x.h hx.h
  have hrow := hS.row
  obtain ⟨w1, hw1⟩ : ∃ w1, w1 = w.alloc (.cells x.list.toArray 32) := ⟨_, rfl⟩
  obtain ⟨k, hk⟩ : ∃ k, k = w.heap.size := ⟨_, rfl⟩
  have hb1 : Below w.heap.size w w1 := by rw [hw1]; exact (Below.refl _ _).alloc (Nat.le_refl _) _
  have nk : w1.heap[k]? = some (.cells x.list.toArray 32 (0, 0)) := by rw [hw1, hk]; exact heap_alloc_new _ _
  have hr1 := (hb1.block g (lt_of_rowW hrow)).trans hrow
  simp only [List.getD_cons_zero, List.getD_cons_succ]
  obtain ⟨b0, hb0⟩ : ∃ b, b = decide (x.mi ∈ L0) := ⟨_, rfl⟩
  obtain ⟨b1, hb1'⟩ : ∃ b, b = decide (x.h ∈ L1) := ⟨_, rfl⟩
  rw [← hb0, ← hb1']
  simp only [← hb0] at m0
  simp only [← hb1'] at m1
  obtain ⟨M0, hM0⟩ : ∃ M, M = mask L0 := ⟨_, rfl⟩
  obtain ⟨M1, hM1⟩ : ∃ M, M = mask L1 := ⟨_, rfl⟩
  obtain ⟨xl, hxl⟩ : ∃ xl, xl = x.list.toArray := ⟨_, rfl⟩
  have KP := Lib.hid (show ∀ W : World, Below w1.heap.size w1 W → W.cell? ⟨g, 1, none⟩ = some (.int .u64 (M0 : Int)) ∧ W.cell? ⟨g, 2, none⟩ = some (.bool s0) ∧ W.cell? ⟨g, 3, none⟩ = some (.int .u64 (M1 : Int)) ∧ W.cell? ⟨g, 4, none⟩ = some (.bool s1)
      ∧ W.cell? ⟨k, 0, none⟩ = some (.int .i64 (x.y : Int)) ∧ W.cell? ⟨k, 1, none⟩ = some (.int .i64 (x.m : Int)) ∧ W.cell? ⟨k, 2, none⟩ = some (.int .i64 (x.d : Int)) ∧ W.cell? ⟨k, 3, none⟩ = some (.int .i64 (x.h : Int)) ∧ W.cell? ⟨k, 4, none⟩ = some (.int .i64 (x.mi : Int)) ∧ W.cell? ⟨k, 5, none⟩ = some (.int .i64 (x.w : Int)) from fun W hW => by
    have r1 := (hW.block g (lt_of_rowW hr1)).trans hr1
    have r2 := (hW.block k (lt_of_rowW nk)).trans nk
    have q := fun j => cell_of_rowW W g j _ _ _ r1
    have p := fun j => cell_of_rowW W k j _ _ _ r2
    rw [q, q, q, q, p, p, p, p, p, p, hM0, hM1]
    exact ⟨rfl, rfl, rfl, rfl, rfl, rfl, rfl, rfl, rfl, rfl⟩)
  rw [← hM0] at m0
  rw [← hM1] at m1
  have FC := Lib.hid (show ∀ W, Below w1.heap.size w1 W → Calls Tryd.prog 26 #[.pointer (some ⟨g, 0, none⟩), .agg #[.int .i64 (x.y : Int), .int .i64 (x.m : Int), .int .i64 (x.d : Int), .int .i64 (x.h : Int), .int .i64 (x.mi : Int), .int .i64 (x.w : Int)]] W fun e w' => e = .returned (.bool fd) ∧ Below W.heap.size W w' from fun W hW => fc W (hb1.trans (hW.mono hb1.size)))
  have C0 := Lib.hid m0
  have C1 := Lib.hid m1
  have HB1 := Lib.hid hb1
  have HW1 := Lib.hid hw1
  have HK := Lib.hid hk
  rw [← hxl] at HW1 ⊢
  clear hlt m0 m1 hrow hS hw1 hk hb1 nk hr1 hb0 hb1' hM0 hM1 hxl fc
  generalize (x.y : Int) = xy at *
  generalize (x.m : Int) = xm at *
  generalize (x.d : Int) = xd at *
  generalize (x.h : Int) = xh at *
  generalize (x.mi : Int) = xmi at *
  generalize (x.w : Int) = xw at *
  have SZ := Lib.hid (show (Tryd.prog.info? 32).map (·.size) = some ([.int .i64 xy, .int .i64 xm, .int .i64 xd, .int .i64 xh, .int .i64 xmi, .int .i64 xw] : List Value).length by kernel_rfl)
  have SF0 := Lib.hid (show (Tryd.prog.info? 55).map (·.size) = some ([.int .u64 (M0 : Int), .bool s0] : List Value).length by kernel_rfl)
  have SF1 := Lib.hid (show (Tryd.prog.info? 55).map (·.size) = some ([.int .u64 (M1 : Int), .bool s1] : List Value).length by kernel_rfl)
  have K0 := Lib.hid (show ∀ W : World, Below w1.heap.size w1 W → ∀ (j : Nat) v, ([.int .u64 (M0 : Int), .bool s0] : List Value)[j]? = some v → W.cell? ((⟨g, 1, none⟩ : Addr).add j) = some v from fun W hW j v hj => by
    obtain ⟨h1, h2, _⟩ := KP.out W hW
    match j, hj with
    | 0, hj => cases hj; exact h1
    | 1, hj => cases hj; exact h2
    | j + 2, hj => simp at hj)
  have K1 := Lib.hid (show ∀ W : World, Below w1.heap.size w1 W → ∀ (j : Nat) v, ([.int .u64 (M1 : Int), .bool s1] : List Value)[j]? = some v → W.cell? ((⟨g, 3, none⟩ : Addr).add j) = some v from fun W hW j v hj => by
    obtain ⟨_, _, h1, h2, _⟩ := KP.out W hW
    match j, hj with
    | 0, hj => cases hj; exact h1
    | 1, hj => cases hj; exact h2
    | j + 2, hj => simp at hj)
  have KD := Lib.hid (show ∀ W : World, Below w1.heap.size w1 W → ∀ (j : Nat) v, ([.int .i64 xy, .int .i64 xm, .int .i64 xd, .int .i64 xh, .int .i64 xmi, .int .i64 xw] : List Value)[j]? = some v → W.cell? ((⟨k, 0, none⟩ : Addr).add j) = some v from fun W hW j v hj => by
    obtain ⟨_, _, _, _, h0, h1, h2, h3, h4, h5⟩ := KP.out W hW
    match j, hj with
    | 0, hj => cases hj; exact h0
    | 1, hj => cases hj; exact h1
    | 2, hj => cases hj; exact h2
    | 3, hj => cases hj; exact h3
    | 4, hj => cases hj; exact h4
    | 5, hj => cases hj; exact h5
    | j + 6, hj => simp at hj)
  go_enter Tryd.func14, Tryd.ntmps14
  go_upto_region 1 with fail
  rw [← HW1.out, ← HK.out]
  cases fd
  · refine wp_region_quiet_in (fun w' => Below w1.heap.size w1 w') (by kernel_rfl) (by kernel_rfl) (below_drewN (Below.refl w1.heap.size w1) 1) ?_
    refine wpQuiet_runG (v := (.pointer (some ⟨g, 0, none⟩))) (by kernel_rfl) (fun w' hC => by rfl) ?_
    simp only [Act.put, List.setIfInBounds_toArray, List.set_cons_zero, List.set_cons_succ, List.getElem_toArray, List.getElem_cons_zero, List.getElem_cons_succ]
    refine wpQuiet_loadG (by kernel_rfl) 32 (.tmp 3) rfl ⟨k, 0, none⟩ rfl [.int .i64 xy, .int .i64 xm, .int .i64 xd, .int .i64 xh, .int .i64 xmi, .int .i64 xw] _ (fun w' hC => KD.out w' hC) Tryd.underlying32 rfl SZ.out ?_
    simp only [Act.put, List.setIfInBounds_toArray, List.set_cons_zero, List.set_cons_succ, List.getElem_toArray, List.getElem_cons_zero, List.getElem_cons_succ]
    refine wpQuiet_callG (f := 26) (xs := #[.tmp 5, .tmp 6]) #[.pointer (some ⟨g, 0, none⟩), .agg #[.int .i64 xy, .int .i64 xm, .int .i64 xd, .int .i64 xh, .int .i64 xmi, .int .i64 xw]] (.bool false) (by kernel_rfl) rfl Tryd.func26 (by kernel_rfl) (by kernel_rfl) (by simp [Act.eval]) (fun W hW => (FC.out W hW).mono fun e w' h => ⟨h.1, Below.trans hW (h.2.mono hW.size)⟩) ?_
    simp only [Act.put, List.setIfInBounds_toArray, List.set_cons_zero, List.set_cons_succ, List.getElem_toArray, List.getElem_cons_zero, List.getElem_cons_succ]
    refine wpQuiet_runG (v := (.bool false)) (by kernel_rfl) (fun w' hC => by rfl) ?_
    simp only [Act.put, List.setIfInBounds_toArray, List.set_cons_zero, List.set_cons_succ, List.getElem_toArray, List.getElem_cons_zero, List.getElem_cons_succ]
    refine wpQuiet_skipG (by kernel_rfl) ?_
    simp only [Act.put, List.setIfInBounds_toArray, List.set_cons_zero, List.set_cons_succ, List.getElem_toArray, List.getElem_cons_zero, List.getElem_cons_succ]
    refine wpQuiet_skipG (by kernel_rfl) ?_
    simp only [Act.put, List.setIfInBounds_toArray, List.set_cons_zero, List.set_cons_succ, List.getElem_toArray, List.getElem_cons_zero, List.getElem_cons_succ]
    refine wpQuiet_skipG (by kernel_rfl) ?_
    simp only [Act.put, List.setIfInBounds_toArray, List.set_cons_zero, List.set_cons_succ, List.getElem_toArray, List.getElem_cons_zero, List.getElem_cons_succ]
    refine wpQuiet_skipG (by kernel_rfl) ?_
    simp only [Act.put, List.setIfInBounds_toArray, List.set_cons_zero, List.set_cons_succ, List.getElem_toArray, List.getElem_cons_zero, List.getElem_cons_succ]
    refine wpQuiet_skipG (by kernel_rfl) ?_
    simp only [Act.put, List.setIfInBounds_toArray, List.set_cons_zero, List.set_cons_succ, List.getElem_toArray, List.getElem_cons_zero, List.getElem_cons_succ]
    refine wpQuiet_skipG (by kernel_rfl) ?_
    simp only [Act.put, List.setIfInBounds_toArray, List.set_cons_zero, List.set_cons_succ, List.getElem_toArray, List.getElem_cons_zero, List.getElem_cons_succ]
    refine wpQuiet_skipG (by kernel_rfl) ?_
    simp only [Act.put, List.setIfInBounds_toArray, List.set_cons_zero, List.set_cons_succ, List.getElem_toArray, List.getElem_cons_zero, List.getElem_cons_succ]
    refine wpQuiet_skipG (by kernel_rfl) ?_
    simp only [Act.put, List.setIfInBounds_toArray, List.set_cons_zero, List.set_cons_succ, List.getElem_toArray, List.getElem_cons_zero, List.getElem_cons_succ]
    refine wpQuiet_runG (v := (.bool false)) (by kernel_rfl) (fun w' hC => by rfl) ?_
    simp only [Act.put, List.setIfInBounds_toArray, List.set_cons_zero, List.set_cons_succ, List.getElem_toArray, List.getElem_cons_zero, List.getElem_cons_succ]
    refine wpQuiet_runG (v := (.bool false)) (by kernel_rfl) (fun w' hC => by rfl) ?_
    simp only [Act.put, List.setIfInBounds_toArray, List.set_cons_zero, List.set_cons_succ, List.getElem_toArray, List.getElem_cons_zero, List.getElem_cons_succ]
    refine wpQuiet_skipG (by kernel_rfl) ?_
    simp only [Act.put, List.setIfInBounds_toArray, List.set_cons_zero, List.set_cons_succ, List.getElem_toArray, List.getElem_cons_zero, List.getElem_cons_succ]
    refine wpQuiet_skipG (by kernel_rfl) ?_
    simp only [Act.put, List.setIfInBounds_toArray, List.set_cons_zero, List.set_cons_succ, List.getElem_toArray, List.getElem_cons_zero, List.getElem_cons_succ]
    refine wpQuiet_skipG (by kernel_rfl) ?_
    simp only [Act.put, List.setIfInBounds_toArray, List.set_cons_zero, List.set_cons_succ, List.getElem_toArray, List.getElem_cons_zero, List.getElem_cons_succ]
    refine wpQuiet_skipG (by kernel_rfl) ?_
    simp only [Act.put, List.setIfInBounds_toArray, List.set_cons_zero, List.set_cons_succ, List.getElem_toArray, List.getElem_cons_zero, List.getElem_cons_succ]
    refine wpQuiet_skipG (by kernel_rfl) ?_
    simp only [Act.put, List.setIfInBounds_toArray, List.set_cons_zero, List.set_cons_succ, List.getElem_toArray, List.getElem_cons_zero, List.getElem_cons_succ]
    refine wpQuiet_skipG (by kernel_rfl) ?_
    simp only [Act.put, List.setIfInBounds_toArray, List.set_cons_zero, List.set_cons_succ, List.getElem_toArray, List.getElem_cons_zero, List.getElem_cons_succ]
    refine wpQuiet_skipG (by kernel_rfl) ?_
    simp only [Act.put, List.setIfInBounds_toArray, List.set_cons_zero, List.set_cons_succ, List.getElem_toArray, List.getElem_cons_zero, List.getElem_cons_succ]
    refine wpQuiet_skipG (by kernel_rfl) ?_
    simp only [Act.put, List.setIfInBounds_toArray, List.set_cons_zero, List.set_cons_succ, List.getElem_toArray, List.getElem_cons_zero, List.getElem_cons_succ]
    refine wpQuiet_runG (v := (.bool false)) (by kernel_rfl) (fun w' hC => by rfl) ?_
    simp only [Act.put, List.setIfInBounds_toArray, List.set_cons_zero, List.set_cons_succ, List.getElem_toArray, List.getElem_cons_zero, List.getElem_cons_succ]
    refine wpQuiet_runG (v := (.bool false)) (by kernel_rfl) (fun w' hC => by rfl) ?_
    simp only [Act.put, List.setIfInBounds_toArray, List.set_cons_zero, List.set_cons_succ, List.getElem_toArray, List.getElem_cons_zero, List.getElem_cons_succ]
    refine wpQuiet_nil ?_
    intro w9 hC9
    go_wp2_with fail
    go_ret
    exact ⟨rfl, HB1.out.trans (hC9.mono HB1.out.size)⟩
  · cases b1
    · refine wp_region_quiet_in (fun w' => Below w1.heap.size w1 w') (by kernel_rfl) (by kernel_rfl) (below_drewN (Below.refl w1.heap.size w1) 1) ?_
      refine wpQuiet_runG (v := (.pointer (some ⟨g, 0, none⟩))) (by kernel_rfl) (fun w' hC => by rfl) ?_
      simp only [Act.put, List.setIfInBounds_toArray, List.set_cons_zero, List.set_cons_succ, List.getElem_toArray, List.getElem_cons_zero, List.getElem_cons_succ]
      refine wpQuiet_loadG (by kernel_rfl) 32 (.tmp 3) rfl ⟨k, 0, none⟩ rfl [.int .i64 xy, .int .i64 xm, .int .i64 xd, .int .i64 xh, .int .i64 xmi, .int .i64 xw] _ (fun w' hC => KD.out w' hC) Tryd.underlying32 rfl SZ.out ?_
      simp only [Act.put, List.setIfInBounds_toArray, List.set_cons_zero, List.set_cons_succ, List.getElem_toArray, List.getElem_cons_zero, List.getElem_cons_succ]
      refine wpQuiet_callG (f := 26) (xs := #[.tmp 5, .tmp 6]) #[.pointer (some ⟨g, 0, none⟩), .agg #[.int .i64 xy, .int .i64 xm, .int .i64 xd, .int .i64 xh, .int .i64 xmi, .int .i64 xw]] (.bool true) (by kernel_rfl) rfl Tryd.func26 (by kernel_rfl) (by kernel_rfl) (by simp [Act.eval]) (fun W hW => (FC.out W hW).mono fun e w' h => ⟨h.1, Below.trans hW (h.2.mono hW.size)⟩) ?_
      simp only [Act.put, List.setIfInBounds_toArray, List.set_cons_zero, List.set_cons_succ, List.getElem_toArray, List.getElem_cons_zero, List.getElem_cons_succ]
      refine wpQuiet_runG (v := (.bool true)) (by kernel_rfl) (fun w' hC => by rfl) ?_
      simp only [Act.put, List.setIfInBounds_toArray, List.set_cons_zero, List.set_cons_succ, List.getElem_toArray, List.getElem_cons_zero, List.getElem_cons_succ]
      refine wpQuiet_runG (v := (.pointer (some ⟨g, 0, none⟩))) (by kernel_rfl) (fun w' hC => by rfl) ?_
      simp only [Act.put, List.setIfInBounds_toArray, List.set_cons_zero, List.set_cons_succ, List.getElem_toArray, List.getElem_cons_zero, List.getElem_cons_succ]
      refine wpQuiet_runG (v := (.pointer (some ⟨g, 0, none⟩))) (by kernel_rfl) (fun w' hC => by rfl) ?_
      simp only [Act.put, List.setIfInBounds_toArray, List.set_cons_zero, List.set_cons_succ, List.getElem_toArray, List.getElem_cons_zero, List.getElem_cons_succ]
      refine wpQuiet_runG (v := (.pointer (some ⟨g, 1, none⟩))) (by kernel_rfl) (fun w' hC => by go_simp) ?_
      simp only [Act.put, List.setIfInBounds_toArray, List.set_cons_zero, List.set_cons_succ, List.getElem_toArray, List.getElem_cons_zero, List.getElem_cons_succ]
      refine wpQuiet_runG (v := (.pointer (some ⟨g, 3, none⟩))) (by kernel_rfl) (fun w' hC => by go_simp) ?_
      simp only [Act.put, List.setIfInBounds_toArray, List.set_cons_zero, List.set_cons_succ, List.getElem_toArray, List.getElem_cons_zero, List.getElem_cons_succ]
      refine wpQuiet_loadG (by kernel_rfl) 55 (.tmp 12) rfl ⟨g, 3, none⟩ rfl [.int .u64 (M1 : Int), .bool s1] _ (fun w' hC => K1.out w' hC) Tryd.underlying55 rfl SF1.out ?_
      simp only [Act.put, List.setIfInBounds_toArray, List.set_cons_zero, List.set_cons_succ, List.getElem_toArray, List.getElem_cons_zero, List.getElem_cons_succ]
      refine wpQuiet_runG (v := (.pointer (some ⟨k, 3, none⟩))) (by kernel_rfl) (fun w' hC => by go_simp) ?_
      simp only [Act.put, List.setIfInBounds_toArray, List.set_cons_zero, List.set_cons_succ, List.getElem_toArray, List.getElem_cons_zero, List.getElem_cons_succ]
      refine wpQuiet_runG (v := (.int .i64 xh)) (by kernel_rfl) (fun w' hC => by have h := (KP.out w' hC).2.2.2.2.2.2.2.1; go_simp) ?_
      simp only [Act.put, List.setIfInBounds_toArray, List.set_cons_zero, List.set_cons_succ, List.getElem_toArray, List.getElem_cons_zero, List.getElem_cons_succ]
      refine wpQuiet_callG (f := 27) (xs := #[.tmp 13, .tmp 15]) #[.agg #[.int .u64 (M1 : Int), .bool s1], .int .i64 xh] (.bool false) (by kernel_rfl) rfl Tryd.func27 (by kernel_rfl) (by kernel_rfl) (by simp [Act.eval]) (fun W hW => (C1.out W).mono fun e w' h => ⟨h.1, Below.trans hW (h.2.mono hW.size)⟩) ?_
      simp only [Act.put, List.setIfInBounds_toArray, List.set_cons_zero, List.set_cons_succ, List.getElem_toArray, List.getElem_cons_zero, List.getElem_cons_succ]
      refine wpQuiet_runG (v := (.bool false)) (by kernel_rfl) (fun w' hC => by rfl) ?_
      simp only [Act.put, List.setIfInBounds_toArray, List.set_cons_zero, List.set_cons_succ, List.getElem_toArray, List.getElem_cons_zero, List.getElem_cons_succ]
      refine wpQuiet_runG (v := (.bool false)) (by kernel_rfl) (fun w' hC => by rfl) ?_
      simp only [Act.put, List.setIfInBounds_toArray, List.set_cons_zero, List.set_cons_succ, List.getElem_toArray, List.getElem_cons_zero, List.getElem_cons_succ]
      refine wpQuiet_skipG (by kernel_rfl) ?_
      simp only [Act.put, List.setIfInBounds_toArray, List.set_cons_zero, List.set_cons_succ, List.getElem_toArray, List.getElem_cons_zero, List.getElem_cons_succ]
      refine wpQuiet_skipG (by kernel_rfl) ?_
      simp only [Act.put, List.setIfInBounds_toArray, List.set_cons_zero, List.set_cons_succ, List.getElem_toArray, List.getElem_cons_zero, List.getElem_cons_succ]
      refine wpQuiet_skipG (by kernel_rfl) ?_
      simp only [Act.put, List.setIfInBounds_toArray, List.set_cons_zero, List.set_cons_succ, List.getElem_toArray, List.getElem_cons_zero, List.getElem_cons_succ]
      refine wpQuiet_skipG (by kernel_rfl) ?_
      simp only [Act.put, List.setIfInBounds_toArray, List.set_cons_zero, List.set_cons_succ, List.getElem_toArray, List.getElem_cons_zero, List.getElem_cons_succ]
      refine wpQuiet_skipG (by kernel_rfl) ?_
      simp only [Act.put, List.setIfInBounds_toArray, List.set_cons_zero, List.set_cons_succ, List.getElem_toArray, List.getElem_cons_zero, List.getElem_cons_succ]
      refine wpQuiet_skipG (by kernel_rfl) ?_
      simp only [Act.put, List.setIfInBounds_toArray, List.set_cons_zero, List.set_cons_succ, List.getElem_toArray, List.getElem_cons_zero, List.getElem_cons_succ]
      refine wpQuiet_skipG (by kernel_rfl) ?_
      simp only [Act.put, List.setIfInBounds_toArray, List.set_cons_zero, List.set_cons_succ, List.getElem_toArray, List.getElem_cons_zero, List.getElem_cons_succ]
      refine wpQuiet_skipG (by kernel_rfl) ?_
      simp only [Act.put, List.setIfInBounds_toArray, List.set_cons_zero, List.set_cons_succ, List.getElem_toArray, List.getElem_cons_zero, List.getElem_cons_succ]
      refine wpQuiet_runG (v := (.bool false)) (by kernel_rfl) (fun w' hC => by rfl) ?_
      simp only [Act.put, List.setIfInBounds_toArray, List.set_cons_zero, List.set_cons_succ, List.getElem_toArray, List.getElem_cons_zero, List.getElem_cons_succ]
      refine wpQuiet_runG (v := (.bool false)) (by kernel_rfl) (fun w' hC => by rfl) ?_
      simp only [Act.put, List.setIfInBounds_toArray, List.set_cons_zero, List.set_cons_succ, List.getElem_toArray, List.getElem_cons_zero, List.getElem_cons_succ]
      refine wpQuiet_nil ?_
      intro w9 hC9
      go_wp2_with fail
      go_ret
      exact ⟨rfl, HB1.out.trans (hC9.mono HB1.out.size)⟩
    · refine wp_region_quiet_in (fun w' => Below w1.heap.size w1 w') (by kernel_rfl) (by kernel_rfl) (below_drewN (Below.refl w1.heap.size w1) 1) ?_
      refine wpQuiet_runG (v := (.pointer (some ⟨g, 0, none⟩))) (by kernel_rfl) (fun w' hC => by rfl) ?_
      simp only [Act.put, List.setIfInBounds_toArray, List.set_cons_zero, List.set_cons_succ, List.getElem_toArray, List.getElem_cons_zero, List.getElem_cons_succ]
      refine wpQuiet_loadG (by kernel_rfl) 32 (.tmp 3) rfl ⟨k, 0, none⟩ rfl [.int .i64 xy, .int .i64 xm, .int .i64 xd, .int .i64 xh, .int .i64 xmi, .int .i64 xw] _ (fun w' hC => KD.out w' hC) Tryd.underlying32 rfl SZ.out ?_
      simp only [Act.put, List.setIfInBounds_toArray, List.set_cons_zero, List.set_cons_succ, List.getElem_toArray, List.getElem_cons_zero, List.getElem_cons_succ]
      refine wpQuiet_callG (f := 26) (xs := #[.tmp 5, .tmp 6]) #[.pointer (some ⟨g, 0, none⟩), .agg #[.int .i64 xy, .int .i64 xm, .int .i64 xd, .int .i64 xh, .int .i64 xmi, .int .i64 xw]] (.bool true) (by kernel_rfl) rfl Tryd.func26 (by kernel_rfl) (by kernel_rfl) (by simp [Act.eval]) (fun W hW => (FC.out W hW).mono fun e w' h => ⟨h.1, Below.trans hW (h.2.mono hW.size)⟩) ?_
      simp only [Act.put, List.setIfInBounds_toArray, List.set_cons_zero, List.set_cons_succ, List.getElem_toArray, List.getElem_cons_zero, List.getElem_cons_succ]
      refine wpQuiet_runG (v := (.bool true)) (by kernel_rfl) (fun w' hC => by rfl) ?_
      simp only [Act.put, List.setIfInBounds_toArray, List.set_cons_zero, List.set_cons_succ, List.getElem_toArray, List.getElem_cons_zero, List.getElem_cons_succ]
      refine wpQuiet_runG (v := (.pointer (some ⟨g, 0, none⟩))) (by kernel_rfl) (fun w' hC => by rfl) ?_
      simp only [Act.put, List.setIfInBounds_toArray, List.set_cons_zero, List.set_cons_succ, List.getElem_toArray, List.getElem_cons_zero, List.getElem_cons_succ]
      refine wpQuiet_runG (v := (.pointer (some ⟨g, 0, none⟩))) (by kernel_rfl) (fun w' hC => by rfl) ?_
      simp only [Act.put, List.setIfInBounds_toArray, List.set_cons_zero, List.set_cons_succ, List.getElem_toArray, List.getElem_cons_zero, List.getElem_cons_succ]
      refine wpQuiet_runG (v := (.pointer (some ⟨g, 1, none⟩))) (by kernel_rfl) (fun w' hC => by go_simp) ?_
      simp only [Act.put, List.setIfInBounds_toArray, List.set_cons_zero, List.set_cons_succ, List.getElem_toArray, List.getElem_cons_zero, List.getElem_cons_succ]
      refine wpQuiet_runG (v := (.pointer (some ⟨g, 3, none⟩))) (by kernel_rfl) (fun w' hC => by go_simp) ?_
      simp only [Act.put, List.setIfInBounds_toArray, List.set_cons_zero, List.set_cons_succ, List.getElem_toArray, List.getElem_cons_zero, List.getElem_cons_succ]
      refine wpQuiet_loadG (by kernel_rfl) 55 (.tmp 12) rfl ⟨g, 3, none⟩ rfl [.int .u64 (M1 : Int), .bool s1] _ (fun w' hC => K1.out w' hC) Tryd.underlying55 rfl SF1.out ?_
      simp only [Act.put, List.setIfInBounds_toArray, List.set_cons_zero, List.set_cons_succ, List.getElem_toArray, List.getElem_cons_zero, List.getElem_cons_succ]
      refine wpQuiet_runG (v := (.pointer (some ⟨k, 3, none⟩))) (by kernel_rfl) (fun w' hC => by go_simp) ?_
      simp only [Act.put, List.setIfInBounds_toArray, List.set_cons_zero, List.set_cons_succ, List.getElem_toArray, List.getElem_cons_zero, List.getElem_cons_succ]
      refine wpQuiet_runG (v := (.int .i64 xh)) (by kernel_rfl) (fun w' hC => by have h := (KP.out w' hC).2.2.2.2.2.2.2.1; go_simp) ?_
      simp only [Act.put, List.setIfInBounds_toArray, List.set_cons_zero, List.set_cons_succ, List.getElem_toArray, List.getElem_cons_zero, List.getElem_cons_succ]
      refine wpQuiet_callG (f := 27) (xs := #[.tmp 13, .tmp 15]) #[.agg #[.int .u64 (M1 : Int), .bool s1], .int .i64 xh] (.bool true) (by kernel_rfl) rfl Tryd.func27 (by kernel_rfl) (by kernel_rfl) (by simp [Act.eval]) (fun W hW => (C1.out W).mono fun e w' h => ⟨h.1, Below.trans hW (h.2.mono hW.size)⟩) ?_
      simp only [Act.put, List.setIfInBounds_toArray, List.set_cons_zero, List.set_cons_succ, List.getElem_toArray, List.getElem_cons_zero, List.getElem_cons_succ]
      refine wpQuiet_runG (v := (.bool true)) (by kernel_rfl) (fun w' hC => by rfl) ?_
      simp only [Act.put, List.setIfInBounds_toArray, List.set_cons_zero, List.set_cons_succ, List.getElem_toArray, List.getElem_cons_zero, List.getElem_cons_succ]
      refine wpQuiet_runG (v := (.bool true)) (by kernel_rfl) (fun w' hC => by rfl) ?_
      simp only [Act.put, List.setIfInBounds_toArray, List.set_cons_zero, List.set_cons_succ, List.getElem_toArray, List.getElem_cons_zero, List.getElem_cons_succ]
      refine wpQuiet_runG (v := (.pointer (some ⟨g, 0, none⟩))) (by kernel_rfl) (fun w' hC => by rfl) ?_
      simp only [Act.put, List.setIfInBounds_toArray, List.set_cons_zero, List.set_cons_succ, List.getElem_toArray, List.getElem_cons_zero, List.getElem_cons_succ]
      refine wpQuiet_runG (v := (.pointer (some ⟨g, 0, none⟩))) (by kernel_rfl) (fun w' hC => by rfl) ?_
      simp only [Act.put, List.setIfInBounds_toArray, List.set_cons_zero, List.set_cons_succ, List.getElem_toArray, List.getElem_cons_zero, List.getElem_cons_succ]
      refine wpQuiet_runG (v := (.pointer (some ⟨g, 1, none⟩))) (by kernel_rfl) (fun w' hC => by go_simp) ?_
      simp only [Act.put, List.setIfInBounds_toArray, List.set_cons_zero, List.set_cons_succ, List.getElem_toArray, List.getElem_cons_zero, List.getElem_cons_succ]
      refine wpQuiet_runG (v := (.pointer (some ⟨g, 1, none⟩))) (by kernel_rfl) (fun w' hC => by go_simp) ?_
      simp only [Act.put, List.setIfInBounds_toArray, List.set_cons_zero, List.set_cons_succ, List.getElem_toArray, List.getElem_cons_zero, List.getElem_cons_succ]
      refine wpQuiet_loadG (by kernel_rfl) 55 (.tmp 22) rfl ⟨g, 1, none⟩ rfl [.int .u64 (M0 : Int), .bool s0] _ (fun w' hC => K0.out w' hC) Tryd.underlying55 rfl SF0.out ?_
      simp only [Act.put, List.setIfInBounds_toArray, List.set_cons_zero, List.set_cons_succ, List.getElem_toArray, List.getElem_cons_zero, List.getElem_cons_succ]
      refine wpQuiet_runG (v := (.pointer (some ⟨k, 4, none⟩))) (by kernel_rfl) (fun w' hC => by go_simp) ?_
      simp only [Act.put, List.setIfInBounds_toArray, List.set_cons_zero, List.set_cons_succ, List.getElem_toArray, List.getElem_cons_zero, List.getElem_cons_succ]
      refine wpQuiet_runG (v := (.int .i64 xmi)) (by kernel_rfl) (fun w' hC => by have h := (KP.out w' hC).2.2.2.2.2.2.2.2.1; go_simp) ?_
      simp only [Act.put, List.setIfInBounds_toArray, List.set_cons_zero, List.set_cons_succ, List.getElem_toArray, List.getElem_cons_zero, List.getElem_cons_succ]
      refine wpQuiet_callG (f := 27) (xs := #[.tmp 23, .tmp 25]) #[.agg #[.int .u64 (M0 : Int), .bool s0], .int .i64 xmi] (.bool b0) (by kernel_rfl) rfl Tryd.func27 (by kernel_rfl) (by kernel_rfl) (by simp [Act.eval]) (fun W hW => (C0.out W).mono fun e w' h => ⟨h.1, Below.trans hW (h.2.mono hW.size)⟩) ?_
      simp only [Act.put, List.setIfInBounds_toArray, List.set_cons_zero, List.set_cons_succ, List.getElem_toArray, List.getElem_cons_zero, List.getElem_cons_succ]
      refine wpQuiet_runG (v := (.bool b0)) (by kernel_rfl) (fun w' hC => by rfl) ?_
      simp only [Act.put, List.setIfInBounds_toArray, List.set_cons_zero, List.set_cons_succ, List.getElem_toArray, List.getElem_cons_zero, List.getElem_cons_succ]
      refine wpQuiet_runG (v := (.bool b0)) (by kernel_rfl) (fun w' hC => by rfl) ?_
      simp only [Act.put, List.setIfInBounds_toArray, List.set_cons_zero, List.set_cons_succ, List.getElem_toArray, List.getElem_cons_zero, List.getElem_cons_succ]
      refine wpQuiet_nil ?_
      intro w9 hC9
      go_wp2_with fail
      go_ret
      exact ⟨rfl, HB1.out.trans (hC9.mono HB1.out.size)⟩
theorem text_any (g : Nat) (l : List UInt8) (D : List (List Nat × Bool)) (w : World) (hS : SpecAt w g l D) :
    Calls Tryd.prog 17 #[.pointer (some ⟨g, 0, none⟩)] w fun e w' => e = .returned (.string (str l)) ∧ w' = w := by
  have c0 : w.cell? ⟨g, 0, none⟩ = some (.string (str l)) := by rw [cell_of_rowW w g 0 _ _ _ hS.row]; rfl
  clear hS
  go_enter Tryd.func17, Tryd.ntmps17
  go_wp2
  go_ret
  exact ⟨rfl, rfl⟩
end Go.Proofs.YthebkckcnmjehaaDoor
