/- The walks of PolicyNumbers and PolicyOf. -/
import Derived.Test.YtogkjiiemflglaaG6
namespace Go.Proofs.Ytogkjiiemflglaa
open Go Go.RowKit
set_option linter.unusedVariables false
set_option linter.unusedSimpArgs false
set_option maxHeartbeats 16000000 in
set_option maxRecDepth 100000 in
theorem numbers_any (a f k m l : Int) (w : World) : Calls Try.prog 3 #[pol a f k m l] w fun e w' => e = .returned (.bool true) ∧ Below w.heap.size w w' := by
  obtain ⟨w1, hw1⟩ : ∃ w1, w1 = w.alloc (.cells #[.int .i64 a, .int .i64 f, .int .i64 k, .int .i64 m, .int .i64 l] 23) := ⟨_, rfl⟩
  obtain ⟨g, hg⟩ : ∃ g, g = w.heap.size := ⟨_, rfl⟩
  have b1 : Below w.heap.size w w1 := by rw [hw1]; exact below_new _ _
  have nk : w1.heap[g]? = some (.cells #[.int .i64 a, .int .i64 f, .int .i64 k, .int .i64 m, .int .i64 l] 23 (0, 0)) := by rw [hw1, hg]; exact heap_alloc_new _ _
  have KA := Lib.hid (fun (W : World) (h : Below w1.heap.size w1 W) => polAll nk h)
  have KC := Lib.hid (fun (W : World) (h : Below w1.heap.size w1 W) => polCB nk h)
  have HW1 := Lib.hid hw1
  have HG := Lib.hid hg
  have B1 := Lib.hid b1
  have BB1 := Lib.hid (Below.refl w1.heap.size w1)
  clear hw1 hg b1 nk
  have QN := Lib.hid (number_any a f k m l)
  have QR := Lib.hid (right_any a f k m l)
  have QC := Lib.hid (check_any a f k m l)
  cases hp : okP a f k m l
  · rw [hp] at QN QR QC
    rw [show nbV a f k m l = 0 by simp [nbV, hp]] at QN
    simp only [if_false, Bool.false_eq_true] at QN QC
    unfold pol at QN QR QC ⊢
    go_enter Try.func3, Try.ntmps3
    go_upto_region 1 with fail
    rw [← HW1.out, ← HG.out]
    go_wp2_with fail
    refine (tries_any w1).mono ?_
    rintro e w2 ⟨rfl, hb⟩
    have BB2 := Lib.hid (BB1.out.trans (hb.mono BB1.out.size))
    clear hb
    obtain ⟨c0, c1, c2, c3, c4⟩ := KC.out _ BB2.out
    go_wp2_with fail
    clear c0 c1 c2 c3 c4
    refine (QN.out _).mono ?_
    rintro e w3 ⟨rfl, hb⟩
    have BB3 := Lib.hid (BB2.out.trans (hb.mono BB2.out.size))
    clear hb
    obtain ⟨c0, c1, c2, c3, c4⟩ := KC.out _ BB3.out
    go_wp2_with fail
    clear c0 c1 c2 c3 c4
    refine (QR.out _).mono ?_
    rintro e w4 ⟨rfl, hb⟩
    have BB4 := Lib.hid (BB3.out.trans (hb.mono BB3.out.size))
    clear hb
    obtain ⟨c0, c1, c2, c3, c4⟩ := KC.out _ BB4.out
    go_wp2_with fail
    clear c0 c1 c2 c3 c4
    refine (QC.out _).mono ?_
    rintro e w5 ⟨rfl, hb⟩
    have BB5 := Lib.hid (BB4.out.trans (hb.mono BB4.out.size))
    clear hb
    go_wp2_with fail
    go_ret
    exact ⟨rfl, B1.out.trans (BB5.out.mono B1.out.size)⟩
  · rw [hp] at QN QR QC
    obtain ⟨N, hN⟩ : ∃ N, N = nbr a f k m l := ⟨_, rfl⟩
    have QO := of_any N
    rw [show ofP N = pol a f k m l by rw [hN]; exact of_nbr hp] at QO
    rw [show nbV a f k m l = N by simp [nbV, hp, hN]] at QN
    simp only [if_true] at QN QC
    obtain ⟨h1, h2, h3, h4, h5, h6, h7, h8, h9, h10⟩ := (okP_iff a f k m l).mp hp
    clear hp
    unfold pol at QN QR QC QO ⊢
    unfold nbr at hN
    have HO := Lib.hid QO
    clear QO
    by_cases ha : a = 0
    · obtain rfl : N = 15 + 16 * (f + 64 * (k - 1 + 8 * (m + 512 * l))) := by rw [hN]; simp [ha]
      clear hN
      subst ha
      go_enter Try.func3, Try.ntmps3
      go_upto_region 1 with fail
      rw [← HW1.out, ← HG.out]
      go_wp2_with fail
      refine (tries_any w1).mono ?_
      rintro e w2 ⟨rfl, hb⟩
      have BB2 := Lib.hid (BB1.out.trans (hb.mono BB1.out.size))
      clear hb
      obtain ⟨c0, c1, c2, c3, c4⟩ := KC.out _ BB2.out
      go_wp2_with fail
      clear c0 c1 c2 c3 c4
      refine (QN.out _).mono ?_
      rintro e w3 ⟨rfl, hb⟩
      have BB3 := Lib.hid (BB2.out.trans (hb.mono BB2.out.size))
      clear hb
      obtain ⟨c0, c1, c2, c3, c4⟩ := KC.out _ BB3.out
      go_wp2_with fail
      clear c0 c1 c2 c3 c4
      refine (QR.out _).mono ?_
      rintro e w4 ⟨rfl, hb⟩
      have BB4 := Lib.hid (BB3.out.trans (hb.mono BB3.out.size))
      clear hb
      have c0 := (KC.out w4 BB4.out).c0
      have c1 := (KC.out w4 BB4.out).c1
      have c2 := (KC.out w4 BB4.out).c2
      have c3 := (KC.out w4 BB4.out).c3
      have c4 := (KC.out w4 BB4.out).c4
      go_upto_region 10 with fail
      refine wp_region_quiet_in (fun w' => Below w1.heap.size w1 w') (by kernel_rfl) (by kernel_rfl) (below_drewG BB4.out 1) ?_
      refine wpQuiet_runG (v := .int .i64 0) (by kernel_rfl) (fun w' hC => by first | rfl | go_simp) ?_
      simp only [Act.put, List.setIfInBounds_toArray, List.set_cons_zero, List.set_cons_succ, List.getElem_toArray, List.getElem_cons_zero, List.getElem_cons_succ]
      refine wpQuiet_runG (v := .bool true) (by kernel_rfl) (fun w' hC => by first | rfl | go_simp) ?_
      simp only [Act.put, List.setIfInBounds_toArray, List.set_cons_zero, List.set_cons_succ, List.getElem_toArray, List.getElem_cons_zero, List.getElem_cons_succ]
      refine wpQuiet_runG (v := .bool true) (by kernel_rfl) (fun w' hC => by first | rfl | go_simp) ?_
      simp only [Act.put, List.setIfInBounds_toArray, List.set_cons_zero, List.set_cons_succ, List.getElem_toArray, List.getElem_cons_zero, List.getElem_cons_succ]
      refine wpQuiet_loadG (by kernel_rfl) 23 (.tmp 1) rfl ⟨g, 0, none⟩ rfl (polL 0 f k m l) _ (fun w' hC => KA.out w' hC) Try.underlying23 rfl (polSizeL 0 f k m l) ?_
      simp only [Act.put, List.setIfInBounds_toArray, List.set_cons_zero, List.set_cons_succ, List.getElem_toArray, List.getElem_cons_zero, List.getElem_cons_succ]
      refine wpQuiet_callG (f := 11) (xs := #[.tmp 55]) #[.agg (polL 0 f k m l).toArray] (.int .i64 0) (by kernel_rfl) rfl Try.func11 (by kernel_rfl) (by kernel_rfl) (by simp [Act.eval]) (fun W hW => (QC.out W).mono fun e w' h => ⟨h.1, Below.trans hW (h.2.mono hW.size)⟩) ?_
      simp only [Act.put, List.setIfInBounds_toArray, List.set_cons_zero, List.set_cons_succ, List.getElem_toArray, List.getElem_cons_zero, List.getElem_cons_succ]
      refine wpQuiet_runG (v := .bool true) (by kernel_rfl) (fun w' hC => by first | rfl | go_simp) ?_
      simp only [Act.put, List.setIfInBounds_toArray, List.set_cons_zero, List.set_cons_succ, List.getElem_toArray, List.getElem_cons_zero, List.getElem_cons_succ]
      refine wpQuiet_runG (v := .bool true) (by kernel_rfl) (fun w' hC => by first | rfl | go_simp) ?_
      simp only [Act.put, List.setIfInBounds_toArray, List.set_cons_zero, List.set_cons_succ, List.getElem_toArray, List.getElem_cons_zero, List.getElem_cons_succ]
      refine wpQuiet_runG (v := .bool true) (by kernel_rfl) (fun w' hC => by first | rfl | go_simp) ?_
      simp only [Act.put, List.setIfInBounds_toArray, List.set_cons_zero, List.set_cons_succ, List.getElem_toArray, List.getElem_cons_zero, List.getElem_cons_succ]
      refine wpQuiet_runG (v := .int .i64 (15 + 16 * (f + 64 * (k - 1 + 8 * (m + 512 * l))))) (by kernel_rfl) (fun w' hC => by first | rfl | go_simp) ?_
      simp only [Act.put, List.setIfInBounds_toArray, List.set_cons_zero, List.set_cons_succ, List.getElem_toArray, List.getElem_cons_zero, List.getElem_cons_succ]
      refine wpQuiet_runG (v := .int .i64 (15 + 16 * (f + 64 * (k - 1 + 8 * (m + 512 * l))))) (by kernel_rfl) (fun w' hC => by first | rfl | go_simp) ?_
      simp only [Act.put, List.setIfInBounds_toArray, List.set_cons_zero, List.set_cons_succ, List.getElem_toArray, List.getElem_cons_zero, List.getElem_cons_succ]
      refine wpQuiet_runG (v := .bool true) (by kernel_rfl) (fun w' hC => by go_simp) ?_
      simp only [Act.put, List.setIfInBounds_toArray, List.set_cons_zero, List.set_cons_succ, List.getElem_toArray, List.getElem_cons_zero, List.getElem_cons_succ]
      refine wpQuiet_runG (v := .bool true) (by kernel_rfl) (fun w' hC => by first | rfl | go_simp) ?_
      simp only [Act.put, List.setIfInBounds_toArray, List.set_cons_zero, List.set_cons_succ, List.getElem_toArray, List.getElem_cons_zero, List.getElem_cons_succ]
      refine wpQuiet_runG (v := .bool true) (by kernel_rfl) (fun w' hC => by first | rfl | go_simp) ?_
      simp only [Act.put, List.setIfInBounds_toArray, List.set_cons_zero, List.set_cons_succ, List.getElem_toArray, List.getElem_cons_zero, List.getElem_cons_succ]
      refine wpQuiet_runG (v := .int .i64 (15 + 16 * (f + 64 * (k - 1 + 8 * (m + 512 * l))))) (by kernel_rfl) (fun w' hC => by first | rfl | go_simp) ?_
      simp only [Act.put, List.setIfInBounds_toArray, List.set_cons_zero, List.set_cons_succ, List.getElem_toArray, List.getElem_cons_zero, List.getElem_cons_succ]
      refine wpQuiet_callG (f := 12) (xs := #[.tmp 65]) #[.int .i64 (15 + 16 * (f + 64 * (k - 1 + 8 * (m + 512 * l))))] (pol 0 f k m l) (by kernel_rfl) rfl Try.func12 (by kernel_rfl) (by kernel_rfl) (by simp [Act.eval]) (fun W hW => (HO.out W).mono fun e w' h => ⟨h.1, Below.trans hW (h.2.mono hW.size)⟩) ?_
      simp only [Act.put, List.setIfInBounds_toArray, List.set_cons_zero, List.set_cons_succ, List.getElem_toArray, List.getElem_cons_zero, List.getElem_cons_succ]
      refine wpQuiet_loadG (by kernel_rfl) 23 (.tmp 1) rfl ⟨g, 0, none⟩ rfl (polL 0 f k m l) _ (fun w' hC => KA.out w' hC) Try.underlying23 rfl (polSizeL 0 f k m l) ?_
      simp only [Act.put, List.setIfInBounds_toArray, List.set_cons_zero, List.set_cons_succ, List.getElem_toArray, List.getElem_cons_zero, List.getElem_cons_succ]
      refine wpQuiet_runG (v := .bool true) (by kernel_rfl) (fun w' hC => by exact exec_pol rfl 0 f k m l rfl rfl w') ?_
      simp only [Act.put, List.setIfInBounds_toArray, List.set_cons_zero, List.set_cons_succ, List.getElem_toArray, List.getElem_cons_zero, List.getElem_cons_succ]
      refine wpQuiet_runG (v := .bool true) (by kernel_rfl) (fun w' hC => by first | rfl | go_simp) ?_
      simp only [Act.put, List.setIfInBounds_toArray, List.set_cons_zero, List.set_cons_succ, List.getElem_toArray, List.getElem_cons_zero, List.getElem_cons_succ]
      refine wpQuiet_runG (v := .bool true) (by kernel_rfl) (fun w' hC => by first | rfl | go_simp) ?_
      simp only [Act.put, List.setIfInBounds_toArray, List.set_cons_zero, List.set_cons_succ, List.getElem_toArray, List.getElem_cons_zero, List.getElem_cons_succ]
      refine wpQuiet_nil ?_
      intro wz hz
      go_wp2_with fail
      go_ret
      exact ⟨rfl, B1.out.trans (hz.mono B1.out.size)⟩
    · obtain rfl : N = (a - 1) + 16 * (f + 64 * (k - 1 + 8 * (m + 512 * l))) := by rw [hN]; simp [ha]
      clear hN
      have ha2 : 0 < a := by omega
      go_enter Try.func3, Try.ntmps3
      go_upto_region 1 with fail
      rw [← HW1.out, ← HG.out]
      go_wp2_with fail
      refine (tries_any w1).mono ?_
      rintro e w2 ⟨rfl, hb⟩
      have BB2 := Lib.hid (BB1.out.trans (hb.mono BB1.out.size))
      clear hb
      obtain ⟨c0, c1, c2, c3, c4⟩ := KC.out _ BB2.out
      go_wp2_with fail
      clear c0 c1 c2 c3 c4
      refine (QN.out _).mono ?_
      rintro e w3 ⟨rfl, hb⟩
      have BB3 := Lib.hid (BB2.out.trans (hb.mono BB2.out.size))
      clear hb
      obtain ⟨c0, c1, c2, c3, c4⟩ := KC.out _ BB3.out
      go_wp2_with fail
      clear c0 c1 c2 c3 c4
      refine (QR.out _).mono ?_
      rintro e w4 ⟨rfl, hb⟩
      have BB4 := Lib.hid (BB3.out.trans (hb.mono BB3.out.size))
      clear hb
      have c0 := (KC.out w4 BB4.out).c0
      have c1 := (KC.out w4 BB4.out).c1
      have c2 := (KC.out w4 BB4.out).c2
      have c3 := (KC.out w4 BB4.out).c3
      have c4 := (KC.out w4 BB4.out).c4
      go_upto_region 10 with fail
      refine wp_region_quiet_in (fun w' => Below w1.heap.size w1 w') (by kernel_rfl) (by kernel_rfl) (below_drewG BB4.out 1) ?_
      refine wpQuiet_runG (v := .int .i64 0) (by kernel_rfl) (fun w' hC => by first | rfl | go_simp) ?_
      simp only [Act.put, List.setIfInBounds_toArray, List.set_cons_zero, List.set_cons_succ, List.getElem_toArray, List.getElem_cons_zero, List.getElem_cons_succ]
      refine wpQuiet_runG (v := .bool true) (by kernel_rfl) (fun w' hC => by first | rfl | go_simp) ?_
      simp only [Act.put, List.setIfInBounds_toArray, List.set_cons_zero, List.set_cons_succ, List.getElem_toArray, List.getElem_cons_zero, List.getElem_cons_succ]
      refine wpQuiet_runG (v := .bool true) (by kernel_rfl) (fun w' hC => by first | rfl | go_simp) ?_
      simp only [Act.put, List.setIfInBounds_toArray, List.set_cons_zero, List.set_cons_succ, List.getElem_toArray, List.getElem_cons_zero, List.getElem_cons_succ]
      refine wpQuiet_loadG (by kernel_rfl) 23 (.tmp 1) rfl ⟨g, 0, none⟩ rfl (polL a f k m l) _ (fun w' hC => KA.out w' hC) Try.underlying23 rfl (polSizeL a f k m l) ?_
      simp only [Act.put, List.setIfInBounds_toArray, List.set_cons_zero, List.set_cons_succ, List.getElem_toArray, List.getElem_cons_zero, List.getElem_cons_succ]
      refine wpQuiet_callG (f := 11) (xs := #[.tmp 55]) #[.agg (polL a f k m l).toArray] (.int .i64 0) (by kernel_rfl) rfl Try.func11 (by kernel_rfl) (by kernel_rfl) (by simp [Act.eval]) (fun W hW => (QC.out W).mono fun e w' h => ⟨h.1, Below.trans hW (h.2.mono hW.size)⟩) ?_
      simp only [Act.put, List.setIfInBounds_toArray, List.set_cons_zero, List.set_cons_succ, List.getElem_toArray, List.getElem_cons_zero, List.getElem_cons_succ]
      refine wpQuiet_runG (v := .bool true) (by kernel_rfl) (fun w' hC => by first | rfl | go_simp) ?_
      simp only [Act.put, List.setIfInBounds_toArray, List.set_cons_zero, List.set_cons_succ, List.getElem_toArray, List.getElem_cons_zero, List.getElem_cons_succ]
      refine wpQuiet_runG (v := .bool true) (by kernel_rfl) (fun w' hC => by first | rfl | go_simp) ?_
      simp only [Act.put, List.setIfInBounds_toArray, List.set_cons_zero, List.set_cons_succ, List.getElem_toArray, List.getElem_cons_zero, List.getElem_cons_succ]
      refine wpQuiet_runG (v := .bool true) (by kernel_rfl) (fun w' hC => by first | rfl | go_simp) ?_
      simp only [Act.put, List.setIfInBounds_toArray, List.set_cons_zero, List.set_cons_succ, List.getElem_toArray, List.getElem_cons_zero, List.getElem_cons_succ]
      refine wpQuiet_runG (v := .int .i64 ((a - 1) + 16 * (f + 64 * (k - 1 + 8 * (m + 512 * l))))) (by kernel_rfl) (fun w' hC => by first | rfl | go_simp) ?_
      simp only [Act.put, List.setIfInBounds_toArray, List.set_cons_zero, List.set_cons_succ, List.getElem_toArray, List.getElem_cons_zero, List.getElem_cons_succ]
      refine wpQuiet_runG (v := .int .i64 ((a - 1) + 16 * (f + 64 * (k - 1 + 8 * (m + 512 * l))))) (by kernel_rfl) (fun w' hC => by first | rfl | go_simp) ?_
      simp only [Act.put, List.setIfInBounds_toArray, List.set_cons_zero, List.set_cons_succ, List.getElem_toArray, List.getElem_cons_zero, List.getElem_cons_succ]
      refine wpQuiet_runG (v := .bool true) (by kernel_rfl) (fun w' hC => by go_simp) ?_
      simp only [Act.put, List.setIfInBounds_toArray, List.set_cons_zero, List.set_cons_succ, List.getElem_toArray, List.getElem_cons_zero, List.getElem_cons_succ]
      refine wpQuiet_runG (v := .bool true) (by kernel_rfl) (fun w' hC => by first | rfl | go_simp) ?_
      simp only [Act.put, List.setIfInBounds_toArray, List.set_cons_zero, List.set_cons_succ, List.getElem_toArray, List.getElem_cons_zero, List.getElem_cons_succ]
      refine wpQuiet_runG (v := .bool true) (by kernel_rfl) (fun w' hC => by first | rfl | go_simp) ?_
      simp only [Act.put, List.setIfInBounds_toArray, List.set_cons_zero, List.set_cons_succ, List.getElem_toArray, List.getElem_cons_zero, List.getElem_cons_succ]
      refine wpQuiet_runG (v := .int .i64 ((a - 1) + 16 * (f + 64 * (k - 1 + 8 * (m + 512 * l))))) (by kernel_rfl) (fun w' hC => by first | rfl | go_simp) ?_
      simp only [Act.put, List.setIfInBounds_toArray, List.set_cons_zero, List.set_cons_succ, List.getElem_toArray, List.getElem_cons_zero, List.getElem_cons_succ]
      refine wpQuiet_callG (f := 12) (xs := #[.tmp 65]) #[.int .i64 ((a - 1) + 16 * (f + 64 * (k - 1 + 8 * (m + 512 * l))))] (pol a f k m l) (by kernel_rfl) rfl Try.func12 (by kernel_rfl) (by kernel_rfl) (by simp [Act.eval]) (fun W hW => (HO.out W).mono fun e w' h => ⟨h.1, Below.trans hW (h.2.mono hW.size)⟩) ?_
      simp only [Act.put, List.setIfInBounds_toArray, List.set_cons_zero, List.set_cons_succ, List.getElem_toArray, List.getElem_cons_zero, List.getElem_cons_succ]
      refine wpQuiet_loadG (by kernel_rfl) 23 (.tmp 1) rfl ⟨g, 0, none⟩ rfl (polL a f k m l) _ (fun w' hC => KA.out w' hC) Try.underlying23 rfl (polSizeL a f k m l) ?_
      simp only [Act.put, List.setIfInBounds_toArray, List.set_cons_zero, List.set_cons_succ, List.getElem_toArray, List.getElem_cons_zero, List.getElem_cons_succ]
      refine wpQuiet_runG (v := .bool true) (by kernel_rfl) (fun w' hC => by exact exec_pol rfl a f k m l rfl rfl w') ?_
      simp only [Act.put, List.setIfInBounds_toArray, List.set_cons_zero, List.set_cons_succ, List.getElem_toArray, List.getElem_cons_zero, List.getElem_cons_succ]
      refine wpQuiet_runG (v := .bool true) (by kernel_rfl) (fun w' hC => by first | rfl | go_simp) ?_
      simp only [Act.put, List.setIfInBounds_toArray, List.set_cons_zero, List.set_cons_succ, List.getElem_toArray, List.getElem_cons_zero, List.getElem_cons_succ]
      refine wpQuiet_runG (v := .bool true) (by kernel_rfl) (fun w' hC => by first | rfl | go_simp) ?_
      simp only [Act.put, List.setIfInBounds_toArray, List.set_cons_zero, List.set_cons_succ, List.getElem_toArray, List.getElem_cons_zero, List.getElem_cons_succ]
      refine wpQuiet_nil ?_
      intro wz hz
      go_wp2_with fail
      go_ret
      exact ⟨rfl, B1.out.trans (hz.mono B1.out.size)⟩
set_option maxHeartbeats 16000000 in
set_option maxRecDepth 100000 in
theorem polof_any (n : Int) (hn : -9223372036854775808 ≤ n ∧ n ≤ 9223372036854775807) (w : World) : Calls Try.prog 4 #[.int .i64 n] w fun e w' => e = .returned (.bool true) ∧ Below w.heap.size w w' := by
  obtain ⟨n0, n1⟩ := hn
  have QO := Lib.hid (of_any n)
  have BB1 := Lib.hid (Below.refl w.heap.size w)
  cases hp : inR n
  · have hr : ¬(0 ≤ n ∧ n < 2147483648) := by simpa [inR] using hp
    rw [ofP, hp] at QO
    simp only [if_false, Bool.false_eq_true] at QO
    have QR := Lib.hid (show ∀ W, Calls Try.prog 10 #[pol 1 0 1 0 0] W fun e w' => e = .returned (.bool true) ∧ Below W.heap.size W w' from fun W => right_any 1 0 1 0 0 W)
    unfold pol at QO QR
    obtain ⟨a, ha⟩ : ∃ a : Int, a = 1 := ⟨_, rfl⟩
    obtain ⟨f, hf⟩ : ∃ a : Int, a = 0 := ⟨_, rfl⟩
    go_enter Try.func4, Try.ntmps4
    go_wp2_with fail
    refine (tries_any w).mono ?_
    rintro e w2 ⟨rfl, hb⟩
    have BB2 := Lib.hid (BB1.out.trans (hb.mono BB1.out.size))
    clear hb
    go_wp2_with fail
    refine (QO.out w2).mono ?_
    rintro e w3 ⟨rfl, hb⟩
    have BB3 := Lib.hid (BB2.out.trans (hb.mono BB2.out.size))
    clear hb
    obtain ⟨w4, hw4⟩ : ∃ w4, w4 = w3.alloc (.cells #[.int .i64 1, .int .i64 0, .int .i64 1, .int .i64 0, .int .i64 0] 23) := ⟨_, rfl⟩
    obtain ⟨g, hg⟩ : ∃ g, g = w3.heap.size := ⟨_, rfl⟩
    have b4 : Below w3.heap.size w3 w4 := by rw [hw4]; exact below_new _ _
    have nk : w4.heap[g]? = some (.cells #[.int .i64 1, .int .i64 0, .int .i64 1, .int .i64 0, .int .i64 0] 23 (0, 0)) := by rw [hw4, hg]; exact heap_alloc_new _ _
    have KA := Lib.hid (fun (W : World) (h : Below w4.heap.size w4 W) => polAll nk h)
    have HW4 := Lib.hid hw4
    have HG := Lib.hid hg
    have BB4 := Lib.hid (BB3.out.trans (b4.mono BB3.out.size))
    have SZ := Lib.hid (polSize 1 0 1 0 0)
    clear hw4 hg b4 nk ha hf a f
    go_upto_region 4 with fail
    rw [← HW4.out, ← HG.out]
    go_wp2_with (with_reducible show wpList _ _ _ _ _ _; refine wpList_load_allW rfl 23 (.tmp 3) rfl ⟨g, 0, none⟩ rfl (polL 1 0 1 0 0) _ (KA.out _ (Below.refl _ _)) Try.underlying23 rfl (polSizeL 1 0 1 0 0) ?_)
    refine (QR.out w4).mono ?_
    rintro e w5 ⟨rfl, hb⟩
    have KA5 := Lib.hid (KA.out w5 hb)
    have BB5 := Lib.hid (BB4.out.trans (hb.mono BB4.out.size))
    clear hb
    by_cases g0 : n < 0
    · go_wp2_with (first | (with_reducible show wpList _ _ _ _ _ _; refine wpList_load_allW rfl 23 (.tmp 3) rfl ⟨g, 0, none⟩ rfl (polL 1 0 1 0 0) _ KA5.out Try.underlying23 rfl (polSizeL 1 0 1 0 0) ?_) | (with_reducible show wpList _ _ _ _ _ _; refine wpList_eqPol rfl (.tmp 19) (.tmp 20) 23 rfl 1 0 1 0 0 rfl rfl ?_))
      go_ret
      exact ⟨rfl, BB5.out⟩
    · have g1 : 2147483648 ≤ n := by omega
      go_wp2_with (first | (with_reducible show wpList _ _ _ _ _ _; refine wpList_load_allW rfl 23 (.tmp 3) rfl ⟨g, 0, none⟩ rfl (polL 1 0 1 0 0) _ KA5.out Try.underlying23 rfl (polSizeL 1 0 1 0 0) ?_) | (with_reducible show wpList _ _ _ _ _ _; refine wpList_eqPol rfl (.tmp 19) (.tmp 20) 23 rfl 1 0 1 0 0 rfl rfl ?_))
      go_ret
      exact ⟨rfl, BB5.out⟩
  · have hr : 0 ≤ n ∧ n < 2147483648 := by simpa [inR] using hp
    have ok := of_ok hp
    have nb := nbr_of hp
    rw [ofP, hp] at QO
    simp only [if_true] at QO
    generalize ofA n = a at QO ok nb
    generalize n / 16 % 64 = f at QO ok nb
    generalize ofK n = k at QO ok nb
    generalize n / 8192 % 512 = m at QO ok nb
    generalize n / 4194304 % 512 = l at QO ok nb
    have QR := right_any a f k m l
    have QN := number_any a f k m l
    rw [ok] at QR QN
    rw [nbV, ok] at QN
    simp only [if_true] at QN
    rw [nb] at QN
    have HR := Lib.hid QR
    obtain ⟨r0, r1⟩ := hr
    have g0 : ¬ n < 0 := by omega
    have g1 : ¬ 2147483648 ≤ n := by omega
    clear QR nb ok hp
    obtain ⟨R, hR⟩ : ∃ R, R = if n / 1024 % 8 = 7 then n - 1024 else n := ⟨_, rfl⟩
    rw [← hR] at QN
    have HN := Lib.hid QN
    have HR2 := Lib.hid hR
    clear QN hR
    unfold pol at QO HR HN
    go_enter Try.func4, Try.ntmps4
    go_wp2_with fail
    refine (tries_any w).mono ?_
    rintro e w2 ⟨rfl, hb⟩
    have BB2 := Lib.hid (BB1.out.trans (hb.mono BB1.out.size))
    clear hb
    go_wp2_with fail
    refine (QO.out w2).mono ?_
    rintro e w3 ⟨rfl, hb⟩
    have BB3 := Lib.hid (BB2.out.trans (hb.mono BB2.out.size))
    clear hb
    obtain ⟨w4, hw4⟩ : ∃ w4, w4 = w3.alloc (.cells #[.int .i64 a, .int .i64 f, .int .i64 k, .int .i64 m, .int .i64 l] 23) := ⟨_, rfl⟩
    obtain ⟨g, hg⟩ : ∃ g, g = w3.heap.size := ⟨_, rfl⟩
    have b4 : Below w3.heap.size w3 w4 := by rw [hw4]; exact below_new _ _
    have nk : w4.heap[g]? = some (.cells #[.int .i64 a, .int .i64 f, .int .i64 k, .int .i64 m, .int .i64 l] 23 (0, 0)) := by rw [hw4, hg]; exact heap_alloc_new _ _
    have KA := Lib.hid (fun (W : World) (h : Below w4.heap.size w4 W) => polAll nk h)
    have HW4 := Lib.hid hw4
    have HG := Lib.hid hg
    have BB4 := Lib.hid (BB3.out.trans (b4.mono BB3.out.size))
    clear hw4 hg b4 nk
    go_upto_region 4 with fail
    rw [← HW4.out, ← HG.out]
    go_wp2_with (with_reducible show wpList _ _ _ _ _ _; refine wpList_load_allW rfl 23 (.tmp 3) rfl ⟨g, 0, none⟩ rfl (polL a f k m l) _ (KA.out _ (Below.refl _ _)) Try.underlying23 rfl (polSizeL a f k m l) ?_)
    refine (HR.out w4).mono ?_
    rintro e w5 ⟨rfl, hb⟩
    have KA5 := Lib.hid (KA.out w5 hb)
    have BB5 := Lib.hid (BB4.out.trans (hb.mono BB4.out.size))
    clear hb
    go_wp2_with (with_reducible show wpList _ _ _ _ _ _; refine wpList_load_allW rfl 23 (.tmp 3) rfl ⟨g, 0, none⟩ rfl (polL a f k m l) _ KA5.out Try.underlying23 rfl (polSizeL a f k m l) ?_)
    refine (HN.out w5).mono ?_
    rintro e w6 ⟨rfl, hb⟩
    have BB6 := Lib.hid (BB5.out.trans (hb.mono BB5.out.size))
    clear hb
    by_cases c7 : n / 1024 % 8 = 7
    · obtain rfl : R = n - 1024 := by rw [HR2.out, if_pos c7]
      go_wp2_with fail
      go_ret
      exact ⟨rfl, BB6.out⟩
    · obtain rfl : R = n := by rw [HR2.out, if_neg c7]
      go_wp2_with fail
      go_ret
      exact ⟨rfl, BB6.out⟩
end Go.Proofs.Ytogkjiiemflglaa
