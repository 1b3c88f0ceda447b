/- The walks of PolicyWaits and PolicyGrows. -/
import Derived.Test.YtogkjiiemflglaaG6
namespace Go.Proofs.Ytogkjiiemflglaa
open Go Go.RowKit
set_option linter.unusedVariables false
set_option linter.unusedSimpArgs false
def WsRel (f k m : Int) (N : Nat) (v i : Value) : Prop := ∃ j : Nat, i = .int .i64 ((j : Int) + 1) ∧ v = .int .i64 (wtN f k m j) ∧ j ≤ N
set_option maxHeartbeats 16000000 in
set_option maxRecDepth 100000 in
theorem waits_any (a f k m l n : Int) (hn : -9223372036854775808 ≤ n ∧ n ≤ 9223372036854775807) (w : World) : Calls Try.prog 5 #[pol a f k m l, .int .i64 n] w fun e w' => e = .returned (.bool true) ∧ Below w.heap.size w w' := by
  obtain ⟨w1, hw1⟩ : ∃ w1, w1 = w.alloc (.cells #[.int .i64 a, .int .i64 f, .int .i64 k, .int .i64 m, .int .i64 l] 23) := ⟨_, rfl⟩
  obtain ⟨g, hg⟩ : ∃ g, g = w.heap.size := ⟨_, rfl⟩
  have b1 : Below w.heap.size w w1 := by rw [hw1]; exact below_new _ _
  have nk : w1.heap[g]? = some (.cells #[.int .i64 a, .int .i64 f, .int .i64 k, .int .i64 m, .int .i64 l] 23 (0, 0)) := by rw [hw1, hg]; exact heap_alloc_new _ _
  have KC := Lib.hid (fun (W : World) (h : Below w1.heap.size w1 W) => polCB nk h)
  have HW1 := Lib.hid hw1
  have HG := Lib.hid hg
  have B1 := Lib.hid b1
  have BB1 := Lib.hid (Below.refl w1.heap.size w1)
  clear hw1 hg b1 nk
  have QR := Lib.hid (right_any a f k m l)
  cases hp : okP a f k m l
  · rw [hp] at QR
    unfold pol at QR ⊢
    go_enter Try.func5, Try.ntmps5
    go_upto_region 1 with fail
    rw [← HW1.out, ← HG.out]
    go_wp2_with fail
    refine (tries_any w1).mono ?_
    rintro e w2 ⟨rfl, hb⟩
    have BB2 := Lib.hid (BB1.out.trans (hb.mono BB1.out.size))
    clear hb
    obtain ⟨c0, c1, c2, c3, c4⟩ := KC.out _ BB2.out
    go_wp2_with fail
    clear c0 c1 c2 c3 c4
    refine (QR.out _).mono ?_
    rintro e w3 ⟨rfl, hb⟩
    have BB3 := Lib.hid (BB2.out.trans (hb.mono BB2.out.size))
    clear hb
    obtain ⟨c0, c1, c2, c3, c4⟩ := KC.out _ BB3.out
    go_wp2_with fail
    go_ret
    exact ⟨rfl, B1.out.trans (BB3.out.mono B1.out.size)⟩
  rw [hp] at QR
  have QW := wait_any a f k m l n hp hn
  obtain ⟨h1, h2, h3, h4, h5, h6, h7, h8, h9, h10⟩ := (okP_iff a f k m l).mp hp
  obtain ⟨n0, n1⟩ := hn
  unfold wtV at QW
  by_cases g0 : n < 1
  · rw [show wtOk a n = false by simp [wtOk]; omega] at QW
    simp only [if_false, Bool.false_eq_true] at QW
    have HQW := Lib.hid QW
    clear QW
    unfold pol at QR HQW ⊢
    go_enter Try.func5, Try.ntmps5
    go_upto_region 1 with fail
    rw [← HW1.out, ← HG.out]
    go_wp2_with fail
    refine (tries_any w1).mono ?_
    rintro e w2 ⟨rfl, hb⟩
    have BB2 := Lib.hid (BB1.out.trans (hb.mono BB1.out.size))
    clear hb
    obtain ⟨c0, c1, c2, c3, c4⟩ := KC.out _ BB2.out
    go_wp2_with fail
    clear c0 c1 c2 c3 c4
    refine (QR.out _).mono ?_
    rintro e w3 ⟨rfl, hb⟩
    have BB3 := Lib.hid (BB2.out.trans (hb.mono BB2.out.size))
    clear hb
    obtain ⟨c0, c1, c2, c3, c4⟩ := KC.out _ BB3.out
    go_wp2_with fail
    clear c0 c1 c2 c3 c4
    refine (HQW.out _).mono ?_
    rintro e w4 ⟨rfl, hb⟩
    have BB4 := Lib.hid (BB3.out.trans (hb.mono BB3.out.size))
    clear hb
    obtain ⟨c0, c1, c2, c3, c4⟩ := KC.out _ BB4.out
    go_wp2_with fail
    go_ret
    exact ⟨rfl, B1.out.trans (BB4.out.mono B1.out.size)⟩
  by_cases g1 : 0 < a ∧ a ≤ n
  · rw [show wtOk a n = false by simp [wtOk]; omega] at QW
    simp only [if_false, Bool.false_eq_true] at QW
    have HQW := Lib.hid QW
    clear QW
    obtain ⟨g2, g3⟩ := g1
    unfold pol at QR HQW ⊢
    go_enter Try.func5, Try.ntmps5
    go_upto_region 1 with fail
    rw [← HW1.out, ← HG.out]
    go_wp2_with fail
    refine (tries_any w1).mono ?_
    rintro e w2 ⟨rfl, hb⟩
    have BB2 := Lib.hid (BB1.out.trans (hb.mono BB1.out.size))
    clear hb
    obtain ⟨c0, c1, c2, c3, c4⟩ := KC.out _ BB2.out
    go_wp2_with fail
    clear c0 c1 c2 c3 c4
    refine (QR.out _).mono ?_
    rintro e w3 ⟨rfl, hb⟩
    have BB3 := Lib.hid (BB2.out.trans (hb.mono BB2.out.size))
    clear hb
    obtain ⟨c0, c1, c2, c3, c4⟩ := KC.out _ BB3.out
    go_wp2_with fail
    clear c0 c1 c2 c3 c4
    refine (HQW.out _).mono ?_
    rintro e w4 ⟨rfl, hb⟩
    have BB4 := Lib.hid (BB3.out.trans (hb.mono BB3.out.size))
    clear hb
    obtain ⟨c0, c1, c2, c3, c4⟩ := KC.out _ BB4.out
    go_wp2_with fail
    go_ret
    exact ⟨rfl, B1.out.trans (BB4.out.mono B1.out.size)⟩
  rw [show wtOk a n = true by simp [wtOk]; omega] at QW
  simp only [if_true] at QW
  obtain ⟨N, hN⟩ : ∃ N : Nat, N = (min (n - 1) 99).toNat := ⟨_, rfl⟩
  have hN2 : (N : Int) + 1 = n ∧ n ≤ 100 ∨ N = 99 ∧ 100 ≤ n := by omega
  obtain ⟨R, hR⟩ : ∃ R, R = wtW f k m n := ⟨_, rfl⟩
  rw [← hR] at QW
  have HR := Lib.hid (show R = wtM m (wtN f k m N) by rw [hR]; exact wtW_at (by omega) h3 h5)
  have HQW := Lib.hid QW
  clear QW hR hp
  by_cases ga : 0 < a
  · have ga2 : ¬ a ≤ n := by omega
    unfold pol at QR HQW ⊢
    go_enter Try.func5, Try.ntmps5
    go_upto_region 1 with fail
    rw [← HW1.out, ← HG.out]
    go_wp2_with fail
    refine (tries_any w1).mono ?_
    rintro e w2 ⟨rfl, hb⟩
    have BB2 := Lib.hid (BB1.out.trans (hb.mono BB1.out.size))
    clear hb
    obtain ⟨c0, c1, c2, c3, c4⟩ := KC.out _ BB2.out
    go_wp2_with fail
    clear c0 c1 c2 c3 c4
    refine (QR.out _).mono ?_
    rintro e w3 ⟨rfl, hb⟩
    have BB3 := Lib.hid (BB2.out.trans (hb.mono BB2.out.size))
    clear hb
    obtain ⟨c0, c1, c2, c3, c4⟩ := KC.out _ BB3.out
    go_wp2_with fail
    clear c0 c1 c2 c3 c4
    refine (HQW.out _).mono ?_
    rintro e w4 ⟨rfl, hb⟩
    have BB4 := Lib.hid (BB3.out.trans (hb.mono BB3.out.size))
    clear hb
    obtain ⟨c0, c1, c2, c3, c4⟩ := KC.out _ BB4.out
    go_wp2_with fail
    go_loop [7, 8] (fun v i => WsRel f k m N v i) (fun _ i => N + 1 - (intOf i).toNat)
    case atStart => exact ⟨0, by go_num, rfl, Nat.zero_le _⟩
    case round =>
      obtain ⟨j, rfl, rfl, hj⟩ := hrel
      have bd := wtN_bound (m := m) h3 h4 h5 h6 j
      have nx := @wtN_more f k m j
      have sm := @wtN_same f k m j
      obtain ⟨v, hv⟩ : ∃ v, v = wtN f k m j := ⟨_, rfl⟩
      rw [← hv] at bd nx sm ⊢
      have q0 : (0 : Int) ≤ (j : Int) := by omega
      have q9 : (j : Int) ≤ 99 := by omega
      obtain ⟨b0, b1⟩ := bd
      have HV := Lib.hid hv
      have HNX := Lib.hid nx
      have HSM := Lib.hid sm
      clear hv nx sm
      by_cases hjN : j < N
      · have q1 : (j : Int) + 1 < n := by omega
        have q2 : (j : Int) + 1 < 100 := by omega
        by_cases g3 : v < 658812288346769700
        · have vk0 : 0 ≤ v * k := Int.mul_nonneg b0 (by omega)
          have vk1 : v * k ≤ v * 7 := Int.mul_le_mul_of_nonneg_left h6 b0
          have vk2 : v * k ≤ 9223372036854775807 := by omega
          by_cases g4 : m = 0
          · subst g4
            go_wp2_with fail
            go_round
            case rel => exact ⟨j + 1, by go_num, by rw [HNX.out (by omega)], by omega⟩
            case measure => simp [intOf]; omega
          · by_cases g5 : v < m
            · go_wp2_with fail
              go_round
              case rel => exact ⟨j + 1, by go_num, by rw [HNX.out (by omega)], by omega⟩
              case measure => simp [intOf]; omega
            · go_wp2_with fail
              go_round
              case rel => exact ⟨j + 1, by go_num, by rw [HSM.out (by omega)], by omega⟩
              case measure => simp [intOf]; omega
        · go_wp2_with fail
          go_round
          case rel => exact ⟨j + 1, by go_num, by rw [HSM.out (by omega)], by omega⟩
          case measure => simp [intOf]; omega
      · obtain rfl : j = N := by omega
        have fin : R = wtM m v := by rw [HR.out, ← HV.out]
        unfold wtM at fin
        by_cases q1 : (j : Int) + 1 < n
        · exact absurd ga2 (by omega)
        · by_cases g4 : 0 < m
          · by_cases g5 : m < v
            · obtain rfl : R = m := by rw [fin, if_pos (by omega)]
              clear fin
              go_wp2_with fail
              go_ret
              exact ⟨rfl, B1.out.trans (BB4.out.mono B1.out.size)⟩
            · obtain rfl : R = v := by rw [fin, if_neg (by omega)]
              clear fin
              go_wp2_with fail
              go_ret
              exact ⟨rfl, B1.out.trans (BB4.out.mono B1.out.size)⟩
          · obtain rfl : R = v := by rw [fin, if_neg (by omega)]
            clear fin
            go_wp2_with fail
            go_ret
            exact ⟨rfl, B1.out.trans (BB4.out.mono B1.out.size)⟩
  · unfold pol at QR HQW ⊢
    go_enter Try.func5, Try.ntmps5
    go_upto_region 1 with fail
    rw [← HW1.out, ← HG.out]
    go_wp2_with fail
    refine (tries_any w1).mono ?_
    rintro e w2 ⟨rfl, hb⟩
    have BB2 := Lib.hid (BB1.out.trans (hb.mono BB1.out.size))
    clear hb
    obtain ⟨c0, c1, c2, c3, c4⟩ := KC.out _ BB2.out
    go_wp2_with fail
    clear c0 c1 c2 c3 c4
    refine (QR.out _).mono ?_
    rintro e w3 ⟨rfl, hb⟩
    have BB3 := Lib.hid (BB2.out.trans (hb.mono BB2.out.size))
    clear hb
    obtain ⟨c0, c1, c2, c3, c4⟩ := KC.out _ BB3.out
    go_wp2_with fail
    clear c0 c1 c2 c3 c4
    refine (HQW.out _).mono ?_
    rintro e w4 ⟨rfl, hb⟩
    have BB4 := Lib.hid (BB3.out.trans (hb.mono BB3.out.size))
    clear hb
    obtain ⟨c0, c1, c2, c3, c4⟩ := KC.out _ BB4.out
    go_wp2_with fail
    go_loop [7, 8] (fun v i => WsRel f k m N v i) (fun _ i => N + 1 - (intOf i).toNat)
    case atStart => exact ⟨0, by go_num, rfl, Nat.zero_le _⟩
    case round =>
      obtain ⟨j, rfl, rfl, hj⟩ := hrel
      have bd := wtN_bound (m := m) h3 h4 h5 h6 j
      have nx := @wtN_more f k m j
      have sm := @wtN_same f k m j
      obtain ⟨v, hv⟩ : ∃ v, v = wtN f k m j := ⟨_, rfl⟩
      rw [← hv] at bd nx sm ⊢
      have q0 : (0 : Int) ≤ (j : Int) := by omega
      have q9 : (j : Int) ≤ 99 := by omega
      obtain ⟨b0, b1⟩ := bd
      have HV := Lib.hid hv
      have HNX := Lib.hid nx
      have HSM := Lib.hid sm
      clear hv nx sm
      by_cases hjN : j < N
      · have q1 : (j : Int) + 1 < n := by omega
        have q2 : (j : Int) + 1 < 100 := by omega
        by_cases g3 : v < 658812288346769700
        · have vk0 : 0 ≤ v * k := Int.mul_nonneg b0 (by omega)
          have vk1 : v * k ≤ v * 7 := Int.mul_le_mul_of_nonneg_left h6 b0
          have vk2 : v * k ≤ 9223372036854775807 := by omega
          by_cases g4 : m = 0
          · subst g4
            go_wp2_with fail
            go_round
            case rel => exact ⟨j + 1, by go_num, by rw [HNX.out (by omega)], by omega⟩
            case measure => simp [intOf]; omega
          · by_cases g5 : v < m
            · go_wp2_with fail
              go_round
              case rel => exact ⟨j + 1, by go_num, by rw [HNX.out (by omega)], by omega⟩
              case measure => simp [intOf]; omega
            · go_wp2_with fail
              go_round
              case rel => exact ⟨j + 1, by go_num, by rw [HSM.out (by omega)], by omega⟩
              case measure => simp [intOf]; omega
        · go_wp2_with fail
          go_round
          case rel => exact ⟨j + 1, by go_num, by rw [HSM.out (by omega)], by omega⟩
          case measure => simp [intOf]; omega
      · obtain rfl : j = N := by omega
        have fin : R = wtM m v := by rw [HR.out, ← HV.out]
        unfold wtM at fin
        by_cases q1 : (j : Int) + 1 < n
        · have q2 : ¬ (j : Int) + 1 < 100 := by omega
          by_cases g4 : 0 < m
          · by_cases g5 : m < v
            · obtain rfl : R = m := by rw [fin, if_pos (by omega)]
              clear fin
              go_wp2_with fail
              go_ret
              exact ⟨rfl, B1.out.trans (BB4.out.mono B1.out.size)⟩
            · obtain rfl : R = v := by rw [fin, if_neg (by omega)]
              clear fin
              go_wp2_with fail
              go_ret
              exact ⟨rfl, B1.out.trans (BB4.out.mono B1.out.size)⟩
          · obtain rfl : R = v := by rw [fin, if_neg (by omega)]
            clear fin
            go_wp2_with fail
            go_ret
            exact ⟨rfl, B1.out.trans (BB4.out.mono B1.out.size)⟩
        · by_cases g4 : 0 < m
          · by_cases g5 : m < v
            · obtain rfl : R = m := by rw [fin, if_pos (by omega)]
              clear fin
              go_wp2_with fail
              go_ret
              exact ⟨rfl, B1.out.trans (BB4.out.mono B1.out.size)⟩
            · obtain rfl : R = v := by rw [fin, if_neg (by omega)]
              clear fin
              go_wp2_with fail
              go_ret
              exact ⟨rfl, B1.out.trans (BB4.out.mono B1.out.size)⟩
          · obtain rfl : R = v := by rw [fin, if_neg (by omega)]
            clear fin
            go_wp2_with fail
            go_ret
            exact ⟨rfl, B1.out.trans (BB4.out.mono B1.out.size)⟩
end Go.Proofs.Ytogkjiiemflglaa
