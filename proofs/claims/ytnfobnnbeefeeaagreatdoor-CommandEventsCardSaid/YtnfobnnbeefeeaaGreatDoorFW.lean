/- The reference's Event of a command. -/
import Derived.Test.YtnfobnnbeefeeaaGreatDoorGV
import Derived.RegionTactic
import Derived.ChangeAlike
import Derived.BigRegion
namespace Go.Proofs.YtnfobnnbeefeeaaGreatDoor.Wi
open Go Go.RowKit
set_option linter.unusedVariables false
set_option linter.unusedSimpArgs false
theorem EvRow.setK {w : World} {g : Nat} {x : Ev} (h : EvRow w g x) (n : Int) : EvRow (w.setCell ⟨g, 2, none⟩ (.int .i64 n)) g { x with kind := n } := Go.Joins.block_setCell (i := 2) h _
set_option maxHeartbeats 8000000 in
set_option maxRecDepth 100000 in
theorem rcevent_any (x : Cm) (N : Nat) (w : World) (hx : x.At N w) (hv : x.vE = 0) (hN : N ≤ w.heap.size) : Calls Tryz.prog 31 #[.agg x.cells.toArray] w fun e w' => e = .returned (.agg (x.ev 0).cells.toArray) ∧ Below w.heap.size w w' := by
  have FI := Cm.fits hv
  have hti := FI.time; have hb0 := FI.b.1; have hbm := hx.b.2
  have HKN := Lib.hid FI.kn
  have hea := FI.a.2; have heb := FI.b.2
  obtain ⟨k, t, a, b, nm, vk, vn, vs, va, vc, vl⟩ := x
  obtain ⟨x, hx0⟩ : ∃ x : Cm, x = ⟨k, t, a, b, nm, .mk vk vn vs va vc vl⟩ := ⟨_, rfl⟩
  dsimp only at hea heb
  have HB0 := Lib.hid (show (cA k = false → a = 0) ∧ (cB k = false → b = 0) from ⟨hea, heb⟩)
  clear hea heb
  rw [← hx0]
  have HX := Lib.hid hx0
  clear FI hv hx
  obtain ⟨w1, hw1⟩ : ∃ bx, bx = w.alloc (.cells x.cells.toArray 42) := ⟨_, rfl⟩
  obtain ⟨g, hg⟩ : ∃ bx, bx = w.heap.size := ⟨_, rfl⟩
  have bw1 : Below w.heap.size w w1 := by rw [hw1]; exact (Below.refl _ _).alloc (Nat.le_refl _) _
  have nw1 : w1.heap[g]? = some (.cells x.cells.toArray 42 (0, 0)) := by rw [hw1, hg]; exact heap_alloc_new _ _
  have Kw1 := Lib.hid (rowC nw1)
  have Cw1 := Lib.hid (cmC nw1)
  have Hw1 := Lib.hid hw1
  have Hg := Lib.hid hg
  have Bw1 := Lib.hid bw1
  have Nw1 := Lib.hid nw1
  clear hw1 hg bw1 nw1
  obtain ⟨w2, hw2⟩ : ∃ w2, w2 = w1.alloc (.cells #[.int .i64 0, .int .i64 0, .int .i64 0, .int .i64 0, .int .i64 0, .string ⟨#[]⟩, .string ⟨#[]⟩, .int .i64 0, .int .i64 0, .string ⟨#[]⟩, .slice none 0 0] 28) := ⟨_, rfl⟩
  obtain ⟨g2, hg2⟩ : ∃ g, g = w1.heap.size := ⟨_, rfl⟩
  have n2 : w2.heap[g2]? = some (.cells z11.toArray 28 (0, 0)) := by rw [hw2, hg2]; exact heap_alloc_new _ _
  have b2 : Below w1.heap.size w1 w2 := by rw [hw2]; exact (Below.refl _ _).alloc (Nat.le_refl _) _
  have HG2 := Lib.hid hg2
  have HG2b := Lib.hid (show g2 = w.heap.size + 1 by rw [hg2, Hw1.out]; simp)
  have HW2 := Lib.hid hw2
  have N2 := Lib.hid n2
  have B2 := Lib.hid b2
  obtain ⟨V, hV⟩ : ∃ V : Ev, V = ⟨0, t, 0, 0, 0, nm, [], .mk vk vn vs va vc vl⟩ := ⟨_, rfl⟩
  have HV := Lib.hid hV
  have HVC0 := Lib.hid (show #[.int .i64 0, .int .i64 t, .int .i64 0, .int .i64 0, .int .i64 0, .string (str nm), .string ⟨#[]⟩, .int .i64 vk, .int .i64 vn, .string (str vs), .slice va vl.length vc] = V.cells.toArray by rw [hV]; rfl)
  obtain ⟨w3, hw3⟩ : ∃ bx, bx = w2.alloc (.cells V.cells.toArray 28) := ⟨_, rfl⟩
  obtain ⟨g3, hg3⟩ : ∃ bx, bx = w2.heap.size := ⟨_, rfl⟩
  have bw3 : Below w2.heap.size w2 w3 := by rw [hw3]; exact (Below.refl _ _).alloc (Nat.le_refl _) _
  have nw3 : w3.heap[g3]? = some (.cells V.cells.toArray 28 (0, 0)) := by rw [hw3, hg3]; exact heap_alloc_new _ _
  have Kw3 := Lib.hid (rowE nw3)
  have Cw3 := Lib.hid (evC nw3)
  have Hw3 := Lib.hid hw3
  have Hg3 := Lib.hid hg3
  have Bw3 := Lib.hid bw3
  have Nw3 := Lib.hid nw3
  clear hw3 hg3 bw3 nw3
  have HW3 := Lib.hid (show w3 = w2.alloc (.cells #[.int .i64 0, .int .i64 t, .int .i64 0, .int .i64 0, .int .i64 0, .string (str nm), .string ⟨#[]⟩, .int .i64 vk, .int .i64 vn, .string (str vs), .slice va vl.length vc] 28) from by rw [Hw3.out, hV]; rfl)
  have row := (B2.out.block g (lt_of_rowK Nw1.out)).trans Nw1.out
  have q := cmC row
  rw [hx0] at q
  obtain ⟨c0, c1, c2, c3, c4, c5x, cv⟩ := q
  dsimp only at c0 c1 c2 c3 c4
  have c5y := c5x
  clear c5y
  have c5 : w2.cell? ⟨g, 5, none⟩ = some (.int .i64 vk) := by have h := cv 0 (.int .i64 vk) rfl; rwa [Addr.add_mid] at h
  have c6 : w2.cell? ⟨g, 6, none⟩ = some (.int .i64 vn) := by have h := cv 1 (.int .i64 vn) rfl; rwa [Addr.add_mid] at h
  have c7 : w2.cell? ⟨g, 7, none⟩ = some (.string (str vs)) := by have h := cv 2 (.string (str vs)) rfl; rwa [Addr.add_mid] at h
  have c8 : w2.cell? ⟨g, 8, none⟩ = some (.slice va vl.length vc) := by have h := cv 3 (.slice va vl.length vc) rfl; rwa [Addr.add_mid] at h
  clear c5x cv row hw2 hg2 n2 b2 hV hx0
  obtain ⟨EV, hEV⟩ : ∃ EV : Ev, EV = x.ev 0 := ⟨_, rfl⟩
  have HEV := Lib.hid (show EV = ⟨0, t, eK k, a, if k = 1 then sat t b else b, nm, [], .mk vk vn vs va vc vl⟩ from by rw [hEV, HX.out]; rfl)
  rw [← hEV]
  clear hEV
  go_enter Tryz.func31, Tryz.ntmps31
  go_upto_region 1 with fail
  rw [← Hw1.out, ← HG2b.out, ← Hg.out, ← HW2.out]
  go_upto_region 2 with fail
  rw [← HW3.out, ← Hg3.out]
  have HGG := Lib.hid (show g2 ≠ g3 ∧ g ≠ g3 ∧ w.heap.size ≤ g3 from by
    have h1 := Hg3.out; have h2 := HG2.out; have h3 := lt_of_rowK N2.out; have h4 := lt_of_rowK Nw1.out; have h5 := B2.out.size; have h6 := Bw1.out.size
    exact ⟨by omega, by omega, by omega⟩)
  have KX := Lib.hid (show w3.cell? ⟨g, 0, none⟩ = some (.int .i64 k) ∧ w3.cell? ⟨g, 1, none⟩ = some (.int .i64 t) ∧ w3.cell? ⟨g, 2, none⟩ = some (.int .i64 a) ∧ w3.cell? ⟨g, 3, none⟩ = some (.int .i64 b) from by
    have h5 := (Bw3.out.block g (Nat.lt_of_lt_of_le (lt_of_rowK Nw1.out) B2.out.size))
    exact ⟨(World.cell?_of_block (a := ⟨g, 0, none⟩) h5).trans c0, (World.cell?_of_block (a := ⟨g, 1, none⟩) h5).trans c1, (World.cell?_of_block (a := ⟨g, 2, none⟩) h5).trans c2, (World.cell?_of_block (a := ⟨g, 3, none⟩) h5).trans c3⟩)
  have RV := Lib.hid (show EvRow w3 g3 ⟨0, t, 0, 0, 0, nm, [], .mk vk vn vs va vc vl⟩ from by rw [← HV.out]; exact Nw3.out)
  have N23 := Lib.hid (show w3.heap[g2]? = some (.cells z11.toArray 28 (0, 0)) from (Bw3.out.block g2 (lt_of_rowK N2.out)).trans N2.out)
  clear c0 c1 c2 c3 c4 c5 c6 c7 c8
  obtain ⟨c0, c1, c2, c3⟩ := KX.out
  obtain ⟨z0, z1, z2, z3, z4, _, _, _⟩ := evC RV.out
  dsimp only at z2 z3 z4
  clear z0 z1
  have f2 := RV.out.frz 2
  have f3 := RV.out.frz 3
  have f4 := RV.out.frz 4
  have hgg := HGG.out.2.1
  have hkn := HKN.out
  dsimp only at hkn hti hb0 hbm
  have SAME := Lib.hid (fun (W : World) (h : ∀ q, q ≠ g3 → W.heap[q]? = w3.heap[q]?) (hs : W.heap.size = w3.heap.size) (ho : W.os = w3.os ∧ W.tape = w3.tape ∧ W.output = w3.output) =>
    show W.heap[g2]? = some (.cells z11.toArray 28 (0, 0)) ∧ (Ending.returned (.agg EV.cells.toArray) = .returned (.agg EV.cells.toArray) ∧ Below w.heap.size w (W.setRow g2 EV.cells.toArray)) from by
      have hg2 : g2 ≠ g3 := HGG.out.1
      have hlt : w.heap.size ≤ g2 := by have := HG2b.out; omega
      have b3 : Below w.heap.size w w3 := Bw1.out.trans ((B2.out.trans (Bw3.out.mono B2.out.size)).mono Bw1.out.size)
      refine ⟨(h g2 hg2).trans N23.out, rfl, ?_⟩
      refine ⟨ho.1.trans b3.os, ho.2.1.trans b3.tape, ho.2.2.trans b3.output, ?_, fun q hq => ?_⟩
      · simp; rw [hs]; exact b3.size
      · rw [setRow_other W g2 q _ (by omega), h q (by have := HGG.out.2.2; omega)]
        exact b3.block q hq)
  obtain rfl | rfl | rfl | rfl | rfl | rfl : k = 1 ∨ k = 2 ∨ k = 3 ∨ k = 4 ∨ k = 5 ∨ k = 6 := by omega
  · go_upto_region 4 with fail
    go_region
    obtain ⟨w4, hw4⟩ : ∃ w', w' = (((w3.setCell ⟨g3, 2, none⟩ (.int .i64 11)).setCell ⟨g3, 3, none⟩ (.int .i64 a)).setCell ⟨g3, 4, none⟩ (.int .i64 4611686018427387903)).drew := ⟨_, rfl⟩
    have ROWw4 := Lib.hid (show EvRow w4 g3 ⟨0, t, 11, a, 4611686018427387903, nm, [], .mk vk vn vs va vc vl⟩ from by rw [hw4]; exact (((RV.out).setK 11).setA a).setB 4611686018427387903)
    have OTw4 := Lib.hid (show (∀ q, q ≠ g3 → w4.heap[q]? = w3.heap[q]?) ∧ w4.heap.size = w3.heap.size ∧ (w4.os = w3.os ∧ w4.tape = w3.tape ∧ w4.output = w3.output) from by rw [hw4]; exact ⟨fun q hq => (Below.heap_setCell _ ⟨g3, 4, none⟩ _ q hq).trans ((Below.heap_setCell _ ⟨g3, 3, none⟩ _ q hq).trans ((Below.heap_setCell _ ⟨g3, 2, none⟩ _ q hq).trans (rfl))), by simp, rfl, rfl, rfl⟩)
    rw [← hw4]
    clear hw4
    have k1 : w4.cell? ⟨g, 1, none⟩ = some (.int .i64 t) := (World.cell?_of_block (a := ⟨g, 1, none⟩) (OTw4.out.1 g hgg)).trans c1
    have k3 : w4.cell? ⟨g, 3, none⟩ = some (.int .i64 b) := (World.cell?_of_block (a := ⟨g, 3, none⟩) (OTw4.out.1 g hgg)).trans c3
    have f5 := ROWw4.out.frz 4
    have y5 := (evC ROWw4.out).c4
    dsimp only at y5
    have sz5 := OTw4.out
    clear sz5 c0 c1 c2 c3 z2 z3 z4 f2 f3 f4
    by_cases hle : b ≤ 4611686018427387903 - t
    · have hsat : sat t b = t + b := by unfold sat; omega
      go_upto_region 17 with fail
      obtain ⟨w5, hw5⟩ : ∃ w', w' = w4.setCell ⟨g3, 4, none⟩ (.int .i64 (t + b)) := ⟨_, rfl⟩
      have ROWw5 := Lib.hid (show EvRow w5 g3 ⟨0, t, 11, a, t + b, nm, [], .mk vk vn vs va vc vl⟩ from by rw [hw5]; exact ROWw4.out.setB (t + b))
      have OTw5 := Lib.hid (show (∀ q, q ≠ g3 → w5.heap[q]? = w3.heap[q]?) ∧ w5.heap.size = w3.heap.size ∧ (w5.os = w3.os ∧ w5.tape = w3.tape ∧ w5.output = w3.output) from by rw [hw5]; exact ⟨fun q hq => (Below.heap_setCell _ ⟨g3, 4, none⟩ _ q hq).trans (OTw4.out.1 q hq), by simpa using OTw4.out.2.1, OTw4.out.2.2.1, OTw4.out.2.2.2.1, OTw4.out.2.2.2.2⟩)
      rw [← hw5]
      clear hw5
      have K9 := Lib.hid (rowE (show EvRow w5 g3 EV from by rw [HEV.out, if_pos rfl, hsat]; exact ROWw5.out))
      have b9 := SAME.out w5 OTw5.out.1 OTw5.out.2.1 OTw5.out.2.2
      have N9 := Lib.hid b9.1
      have RL := Lib.hid b9.2
      clear b9 y5 f5 k1 k3
      go_wp2_with (first | (with_reducible show wpList _ _ _ _ _ _; refine wpList_load_allW rfl 28 (.tmp 3) rfl ⟨g3,0,none⟩ rfl EV.cells _ K9.out Tryz.underlying28 rfl (Tryz.evSize EV) ?_) | (with_reducible show wpList _ _ _ _ _ _; refine wpList_store_whole rfl 28 (.tmp 2) (.tmp 56) rfl g2 28 z11.toArray EV.cells.toArray rfl rfl N9.out (Tryz.evSize' EV) (Ev.elevenZ EV) EV.cells_one ?_))
      refine bodyPost_ret (results_cell_row rfl _ _ g2 28 EV.cells.toArray (0, 0) _ rfl (setRow_heap _ g2 _ _ _ _ N9.out) Tryz.underlying28 rfl (Tryz.evSize' EV)) rfl ?_
      exact ⟨rfl, RL.out.2⟩
    · have hsat : sat t b = 4611686018427387903 := by unfold sat; omega
      go_upto_region 17 with fail
      have K9 := Lib.hid (rowE (show EvRow w4 g3 EV from by rw [HEV.out, if_pos rfl, hsat]; exact ROWw4.out))
      have b9 := SAME.out w4 OTw4.out.1 OTw4.out.2.1 OTw4.out.2.2
      have N9 := Lib.hid b9.1
      have RL := Lib.hid b9.2
      clear b9 y5 f5 k1 k3
      go_wp2_with (first | (with_reducible show wpList _ _ _ _ _ _; refine wpList_load_allW rfl 28 (.tmp 3) rfl ⟨g3,0,none⟩ rfl EV.cells _ K9.out Tryz.underlying28 rfl (Tryz.evSize EV) ?_) | (with_reducible show wpList _ _ _ _ _ _; refine wpList_store_whole rfl 28 (.tmp 2) (.tmp 56) rfl g2 28 z11.toArray EV.cells.toArray rfl rfl N9.out (Tryz.evSize' EV) (Ev.elevenZ EV) EV.cells_one ?_))
      refine bodyPost_ret (results_cell_row rfl _ _ g2 28 EV.cells.toArray (0, 0) _ rfl (setRow_heap _ g2 _ _ _ _ N9.out) Tryz.underlying28 rfl (Tryz.evSize' EV)) rfl ?_
      exact ⟨rfl, RL.out.2⟩
  · have hbz : b = 0 := HB0.out.2 (by decide)
    subst hbz
    go_upto_region 8 with fail
    go_region
    obtain ⟨w4, hw4⟩ : ∃ w', w' = ((w3.setCell ⟨g3, 2, none⟩ (.int .i64 13)).setCell ⟨g3, 3, none⟩ (.int .i64 a)).drew := ⟨_, rfl⟩
    have ROWw4 := Lib.hid (show EvRow w4 g3 ⟨0, t, 13, a, 0, nm, [], .mk vk vn vs va vc vl⟩ from by rw [hw4]; exact ((RV.out).setK 13).setA a)
    have OTw4 := Lib.hid (show (∀ q, q ≠ g3 → w4.heap[q]? = w3.heap[q]?) ∧ w4.heap.size = w3.heap.size ∧ (w4.os = w3.os ∧ w4.tape = w3.tape ∧ w4.output = w3.output) from by rw [hw4]; exact ⟨fun q hq => (Below.heap_setCell _ ⟨g3, 3, none⟩ _ q hq).trans ((Below.heap_setCell _ ⟨g3, 2, none⟩ _ q hq).trans (rfl)), by simp, rfl, rfl, rfl⟩)
    rw [← hw4]
    clear hw4
    have K9 := Lib.hid (rowE (show EvRow w4 g3 EV from by rw [HEV.out]; exact ROWw4.out))
    have b9 := SAME.out w4 OTw4.out.1 OTw4.out.2.1 OTw4.out.2.2
    have N9 := Lib.hid b9.1
    have RL := Lib.hid b9.2
    clear b9 z2 z3 z4 f2 f3 f4
    go_wp2_with (first | (with_reducible show wpList _ _ _ _ _ _; refine wpList_load_allW rfl 28 (.tmp 3) rfl ⟨g3,0,none⟩ rfl EV.cells _ K9.out Tryz.underlying28 rfl (Tryz.evSize EV) ?_) | (with_reducible show wpList _ _ _ _ _ _; refine wpList_store_whole rfl 28 (.tmp 2) (.tmp 56) rfl g2 28 z11.toArray EV.cells.toArray rfl rfl N9.out (Tryz.evSize' EV) (Ev.elevenZ EV) EV.cells_one ?_))
    refine bodyPost_ret (results_cell_row rfl _ _ g2 28 EV.cells.toArray (0, 0) _ rfl (setRow_heap _ g2 _ _ _ _ N9.out) Tryz.underlying28 rfl (Tryz.evSize' EV)) rfl ?_
    exact ⟨rfl, RL.out.2⟩
  · go_upto_region 10 with fail
    go_region
    obtain ⟨w4, hw4⟩ : ∃ w', w' = (((w3.setCell ⟨g3, 2, none⟩ (.int .i64 7)).setCell ⟨g3, 3, none⟩ (.int .i64 a)).setCell ⟨g3, 4, none⟩ (.int .i64 b)).drew := ⟨_, rfl⟩
    have ROWw4 := Lib.hid (show EvRow w4 g3 ⟨0, t, 7, a, b, nm, [], .mk vk vn vs va vc vl⟩ from by rw [hw4]; exact (((RV.out).setK 7).setA a).setB b)
    have OTw4 := Lib.hid (show (∀ q, q ≠ g3 → w4.heap[q]? = w3.heap[q]?) ∧ w4.heap.size = w3.heap.size ∧ (w4.os = w3.os ∧ w4.tape = w3.tape ∧ w4.output = w3.output) from by rw [hw4]; exact ⟨fun q hq => (Below.heap_setCell _ ⟨g3, 4, none⟩ _ q hq).trans ((Below.heap_setCell _ ⟨g3, 3, none⟩ _ q hq).trans ((Below.heap_setCell _ ⟨g3, 2, none⟩ _ q hq).trans (rfl))), by simp, rfl, rfl, rfl⟩)
    rw [← hw4]
    clear hw4
    have K9 := Lib.hid (rowE (show EvRow w4 g3 EV from by rw [HEV.out]; exact ROWw4.out))
    have b9 := SAME.out w4 OTw4.out.1 OTw4.out.2.1 OTw4.out.2.2
    have N9 := Lib.hid b9.1
    have RL := Lib.hid b9.2
    clear b9 z2 z3 z4 f2 f3 f4
    go_wp2_with (first | (with_reducible show wpList _ _ _ _ _ _; refine wpList_load_allW rfl 28 (.tmp 3) rfl ⟨g3,0,none⟩ rfl EV.cells _ K9.out Tryz.underlying28 rfl (Tryz.evSize EV) ?_) | (with_reducible show wpList _ _ _ _ _ _; refine wpList_store_whole rfl 28 (.tmp 2) (.tmp 56) rfl g2 28 z11.toArray EV.cells.toArray rfl rfl N9.out (Tryz.evSize' EV) (Ev.elevenZ EV) EV.cells_one ?_))
    refine bodyPost_ret (results_cell_row rfl _ _ g2 28 EV.cells.toArray (0, 0) _ rfl (setRow_heap _ g2 _ _ _ _ N9.out) Tryz.underlying28 rfl (Tryz.evSize' EV)) rfl ?_
    exact ⟨rfl, RL.out.2⟩
  · have hbz : b = 0 := HB0.out.2 (by decide)
    have haz : a = 0 := HB0.out.1 (by decide)
    subst hbz haz
    go_upto_region 17 with fail
    obtain ⟨w4, hw4⟩ : ∃ w', w' = (w3.setCell ⟨g3, 2, none⟩ (.int .i64 16)) := ⟨_, rfl⟩
    have ROWw4 := Lib.hid (show EvRow w4 g3 ⟨0, t, 16, 0, 0, nm, [], .mk vk vn vs va vc vl⟩ from by rw [hw4]; exact (RV.out).setK 16)
    have OTw4 := Lib.hid (show (∀ q, q ≠ g3 → w4.heap[q]? = w3.heap[q]?) ∧ w4.heap.size = w3.heap.size ∧ (w4.os = w3.os ∧ w4.tape = w3.tape ∧ w4.output = w3.output) from by rw [hw4]; exact ⟨fun q hq => (Below.heap_setCell _ ⟨g3, 2, none⟩ _ q hq).trans (rfl), by simp, rfl, rfl, rfl⟩)
    rw [← hw4]
    clear hw4
    have K9 := Lib.hid (rowE (show EvRow w4 g3 EV from by rw [HEV.out]; exact ROWw4.out))
    have b9 := SAME.out w4 OTw4.out.1 OTw4.out.2.1 OTw4.out.2.2
    have N9 := Lib.hid b9.1
    have RL := Lib.hid b9.2
    clear b9 z2 z3 z4 f2 f3 f4
    go_wp2_with (first | (with_reducible show wpList _ _ _ _ _ _; refine wpList_load_allW rfl 28 (.tmp 3) rfl ⟨g3,0,none⟩ rfl EV.cells _ K9.out Tryz.underlying28 rfl (Tryz.evSize EV) ?_) | (with_reducible show wpList _ _ _ _ _ _; refine wpList_store_whole rfl 28 (.tmp 2) (.tmp 56) rfl g2 28 z11.toArray EV.cells.toArray rfl rfl N9.out (Tryz.evSize' EV) (Ev.elevenZ EV) EV.cells_one ?_))
    refine bodyPost_ret (results_cell_row rfl _ _ g2 28 EV.cells.toArray (0, 0) _ rfl (setRow_heap _ g2 _ _ _ _ N9.out) Tryz.underlying28 rfl (Tryz.evSize' EV)) rfl ?_
    exact ⟨rfl, RL.out.2⟩
  · have hbz : b = 0 := HB0.out.2 (by decide)
    have haz : a = 0 := HB0.out.1 (by decide)
    subst hbz haz
    go_upto_region 17 with fail
    obtain ⟨w4, hw4⟩ : ∃ w', w' = (w3.setCell ⟨g3, 2, none⟩ (.int .i64 17)) := ⟨_, rfl⟩
    have ROWw4 := Lib.hid (show EvRow w4 g3 ⟨0, t, 17, 0, 0, nm, [], .mk vk vn vs va vc vl⟩ from by rw [hw4]; exact (RV.out).setK 17)
    have OTw4 := Lib.hid (show (∀ q, q ≠ g3 → w4.heap[q]? = w3.heap[q]?) ∧ w4.heap.size = w3.heap.size ∧ (w4.os = w3.os ∧ w4.tape = w3.tape ∧ w4.output = w3.output) from by rw [hw4]; exact ⟨fun q hq => (Below.heap_setCell _ ⟨g3, 2, none⟩ _ q hq).trans (rfl), by simp, rfl, rfl, rfl⟩)
    rw [← hw4]
    clear hw4
    have K9 := Lib.hid (rowE (show EvRow w4 g3 EV from by rw [HEV.out]; exact ROWw4.out))
    have b9 := SAME.out w4 OTw4.out.1 OTw4.out.2.1 OTw4.out.2.2
    have N9 := Lib.hid b9.1
    have RL := Lib.hid b9.2
    clear b9 z2 z3 z4 f2 f3 f4
    go_wp2_with (first | (with_reducible show wpList _ _ _ _ _ _; refine wpList_load_allW rfl 28 (.tmp 3) rfl ⟨g3,0,none⟩ rfl EV.cells _ K9.out Tryz.underlying28 rfl (Tryz.evSize EV) ?_) | (with_reducible show wpList _ _ _ _ _ _; refine wpList_store_whole rfl 28 (.tmp 2) (.tmp 56) rfl g2 28 z11.toArray EV.cells.toArray rfl rfl N9.out (Tryz.evSize' EV) (Ev.elevenZ EV) EV.cells_one ?_))
    refine bodyPost_ret (results_cell_row rfl _ _ g2 28 EV.cells.toArray (0, 0) _ rfl (setRow_heap _ g2 _ _ _ _ N9.out) Tryz.underlying28 rfl (Tryz.evSize' EV)) rfl ?_
    exact ⟨rfl, RL.out.2⟩
  · have hbz : b = 0 := HB0.out.2 (by decide)
    have haz : a = 0 := HB0.out.1 (by decide)
    subst hbz haz
    go_upto_region 17 with fail
    obtain ⟨w4, hw4⟩ : ∃ w', w' = (w3.setCell ⟨g3, 2, none⟩ (.int .i64 21)) := ⟨_, rfl⟩
    have ROWw4 := Lib.hid (show EvRow w4 g3 ⟨0, t, 21, 0, 0, nm, [], .mk vk vn vs va vc vl⟩ from by rw [hw4]; exact (RV.out).setK 21)
    have OTw4 := Lib.hid (show (∀ q, q ≠ g3 → w4.heap[q]? = w3.heap[q]?) ∧ w4.heap.size = w3.heap.size ∧ (w4.os = w3.os ∧ w4.tape = w3.tape ∧ w4.output = w3.output) from by rw [hw4]; exact ⟨fun q hq => (Below.heap_setCell _ ⟨g3, 2, none⟩ _ q hq).trans (rfl), by simp, rfl, rfl, rfl⟩)
    rw [← hw4]
    clear hw4
    have K9 := Lib.hid (rowE (show EvRow w4 g3 EV from by rw [HEV.out]; exact ROWw4.out))
    have b9 := SAME.out w4 OTw4.out.1 OTw4.out.2.1 OTw4.out.2.2
    have N9 := Lib.hid b9.1
    have RL := Lib.hid b9.2
    clear b9 z2 z3 z4 f2 f3 f4
    go_wp2_with (first | (with_reducible show wpList _ _ _ _ _ _; refine wpList_load_allW rfl 28 (.tmp 3) rfl ⟨g3,0,none⟩ rfl EV.cells _ K9.out Tryz.underlying28 rfl (Tryz.evSize EV) ?_) | (with_reducible show wpList _ _ _ _ _ _; refine wpList_store_whole rfl 28 (.tmp 2) (.tmp 56) rfl g2 28 z11.toArray EV.cells.toArray rfl rfl N9.out (Tryz.evSize' EV) (Ev.elevenZ EV) EV.cells_one ?_))
    refine bodyPost_ret (results_cell_row rfl _ _ g2 28 EV.cells.toArray (0, 0) _ rfl (setRow_heap _ g2 _ _ _ _ N9.out) Tryz.underlying28 rfl (Tryz.evSize' EV)) rfl ?_
    exact ⟨rfl, RL.out.2⟩
end Go.Proofs.YtnfobnnbeefeeaaGreatDoor.Wi
