/- The walks of PolicyTicks, PolicyWaits and PolicyGrows. -/
import Derived.Test.YtogkjiiemflglaaG6
namespace Go.Proofs.Ytogkjiiemflglaa
open Go Go.RowKit
set_option linter.unusedVariables false
set_option linter.unusedSimpArgs false
set_option maxHeartbeats 16000000 in
set_option maxRecDepth 100000 in
theorem ticks_any (a f k m l n now : Int) (hn : -9223372036854775808 ≤ n ∧ n ≤ 9223372036854775807) (hw : -9223372036854775808 ≤ now ∧ now ≤ 9223372036854775807) (w : World) : Calls Try.prog 7 #[pol a f k m l, .int .i64 n, .int .i64 now] w fun e w' => e = .returned (.bool true) ∧ Below w.heap.size w w' := by
  obtain ⟨w1, hw1⟩ : ∃ w1, w1 = w.alloc (.cells #[.int .i64 a, .int .i64 f, .int .i64 k, .int .i64 m, .int .i64 l] 23) := ⟨_, rfl⟩
  obtain ⟨g, hg⟩ : ∃ g, g = w.heap.size := ⟨_, rfl⟩
  have b1 : Below w.heap.size w w1 := by rw [hw1]; exact below_new _ _
  have nk : w1.heap[g]? = some (.cells #[.int .i64 a, .int .i64 f, .int .i64 k, .int .i64 m, .int .i64 l] 23 (0, 0)) := by rw [hw1, hg]; exact heap_alloc_new _ _
  have KC := Lib.hid (fun (W : World) (h : Below w1.heap.size w1 W) => polCB nk h)
  have HW1 := Lib.hid hw1
  have HG := Lib.hid hg
  have B1 := Lib.hid b1
  have BB1 := Lib.hid (Below.refl w1.heap.size w1)
  clear hw1 hg b1 nk
  have QR := Lib.hid (right_any a f k m l)
  cases hp : okP a f k m l
  · rw [hp] at QR
    unfold pol at QR ⊢
    go_enter Try.func7, Try.ntmps7
    go_upto_region 1 with fail
    rw [← HW1.out, ← HG.out]
    go_wp2_with fail
    refine (tries_any w1).mono ?_
    rintro e w2 ⟨rfl, hb⟩
    have BB2 := Lib.hid (BB1.out.trans (hb.mono BB1.out.size))
    clear hb
    obtain ⟨c0, c1, c2, c3, c4⟩ := KC.out _ BB2.out
    go_wp2_with fail
    clear c0 c1 c2 c3 c4
    refine (QR.out _).mono ?_
    rintro e w3 ⟨rfl, hb⟩
    have BB3 := Lib.hid (BB2.out.trans (hb.mono BB2.out.size))
    clear hb
    obtain ⟨c0, c1, c2, c3, c4⟩ := KC.out _ BB3.out
    go_wp2_with fail
    go_ret
    exact ⟨rfl, B1.out.trans (BB3.out.mono B1.out.size)⟩
  rw [hp] at QR
  by_cases c9 : 4611686018427387903 < now
  · unfold pol at QR ⊢
    go_enter Try.func7, Try.ntmps7
    go_upto_region 1 with fail
    rw [← HW1.out, ← HG.out]
    go_wp2_with fail
    refine (tries_any w1).mono ?_
    rintro e w2 ⟨rfl, hb⟩
    have BB2 := Lib.hid (BB1.out.trans (hb.mono BB1.out.size))
    clear hb
    obtain ⟨c0, c1, c2, c3, c4⟩ := KC.out _ BB2.out
    go_wp2_with fail
    clear c0 c1 c2 c3 c4
    refine (QR.out _).mono ?_
    rintro e w3 ⟨rfl, hb⟩
    have BB3 := Lib.hid (BB2.out.trans (hb.mono BB2.out.size))
    clear hb
    obtain ⟨c0, c1, c2, c3, c4⟩ := KC.out _ BB3.out
    go_wp2_with fail
    go_ret
    exact ⟨rfl, B1.out.trans (BB3.out.mono B1.out.size)⟩
  have QW := wait_any a f k m l n hp hn
  have QA := again_any a f k m l n now hp hn hw
  obtain ⟨h1, h2, h3, h4, h5, h6, h7, h8, h9, h10⟩ := (okP_iff a f k m l).mp hp
  obtain ⟨wb0, wb1⟩ := wtW_bound (n := n) h3 h4 h5 h6 h7
  obtain ⟨w0a, w0b⟩ := hw
  unfold agV agOk at QA
  unfold wtV at QW
  obtain ⟨T, hT⟩ : ∃ T, T = wtW f k m n := ⟨_, rfl⟩
  rw [← hT] at QA QW wb0 wb1
  clear hT
  cases ok : wtOk a n
  · rw [ok] at QW QA
    simp only [if_true, if_false, Bool.false_eq_true, Bool.true_and, Bool.false_and] at QW QA
    have HQW := Lib.hid QW
    clear QW ok
    have HQA := Lib.hid QA
    clear QA
    by_cases g0 : now < 0
    · unfold pol at QR HQW HQA ⊢
      go_enter Try.func7, Try.ntmps7
      go_upto_region 1 with fail
      rw [← HW1.out, ← HG.out]
      go_wp2_with fail
      refine (tries_any w1).mono ?_
      rintro e w2 ⟨rfl, hb⟩
      have BB2 := Lib.hid (BB1.out.trans (hb.mono BB1.out.size))
      clear hb
      obtain ⟨c0, c1, c2, c3, c4⟩ := KC.out _ BB2.out
      go_wp2_with fail
      clear c0 c1 c2 c3 c4
      refine (QR.out _).mono ?_
      rintro e w3 ⟨rfl, hb⟩
      have BB3 := Lib.hid (BB2.out.trans (hb.mono BB2.out.size))
      clear hb
      obtain ⟨c0, c1, c2, c3, c4⟩ := KC.out _ BB3.out
      go_wp2_with fail
      clear c0 c1 c2 c3 c4
      refine (HQW.out _).mono ?_
      rintro e w4 ⟨rfl, hb⟩
      have BB4 := Lib.hid (BB3.out.trans (hb.mono BB3.out.size))
      clear hb
      obtain ⟨c0, c1, c2, c3, c4⟩ := KC.out _ BB4.out
      go_wp2_with fail
      clear c0 c1 c2 c3 c4
      refine (HQA.out _).mono ?_
      rintro e w5 ⟨rfl, hb⟩
      have BB5 := Lib.hid (BB4.out.trans (hb.mono BB4.out.size))
      clear hb
      obtain ⟨c0, c1, c2, c3, c4⟩ := KC.out _ BB5.out
      go_wp2_with fail
      go_ret
      exact ⟨rfl, B1.out.trans (BB5.out.mono B1.out.size)⟩
    replace g0 : 0 ≤ now := by omega
    by_cases g5 : l = 0
    · have QD := Lib.hid (due_any a f k m l now hp g0 w0b)
      rw [show duOk l now = false by simp [duOk, g5]] at QD
      simp only [if_false, Bool.false_eq_true] at QD
      subst g5
      unfold pol at QR HQW HQA QD ⊢
      go_enter Try.func7, Try.ntmps7
      go_upto_region 1 with fail
      rw [← HW1.out, ← HG.out]
      go_wp2_with fail
      refine (tries_any w1).mono ?_
      rintro e w2 ⟨rfl, hb⟩
      have BB2 := Lib.hid (BB1.out.trans (hb.mono BB1.out.size))
      clear hb
      obtain ⟨c0, c1, c2, c3, c4⟩ := KC.out _ BB2.out
      go_wp2_with fail
      clear c0 c1 c2 c3 c4
      refine (QR.out _).mono ?_
      rintro e w3 ⟨rfl, hb⟩
      have BB3 := Lib.hid (BB2.out.trans (hb.mono BB2.out.size))
      clear hb
      obtain ⟨c0, c1, c2, c3, c4⟩ := KC.out _ BB3.out
      go_wp2_with fail
      clear c0 c1 c2 c3 c4
      refine (HQW.out _).mono ?_
      rintro e w4 ⟨rfl, hb⟩
      have BB4 := Lib.hid (BB3.out.trans (hb.mono BB3.out.size))
      clear hb
      obtain ⟨c0, c1, c2, c3, c4⟩ := KC.out _ BB4.out
      go_wp2_with fail
      clear c0 c1 c2 c3 c4
      refine (HQA.out _).mono ?_
      rintro e w5 ⟨rfl, hb⟩
      have BB5 := Lib.hid (BB4.out.trans (hb.mono BB4.out.size))
      clear hb
      obtain ⟨c0, c1, c2, c3, c4⟩ := KC.out _ BB5.out
      go_wp2_with fail
      clear c0 c1 c2 c3 c4
      refine (QD.out _).mono ?_
      rintro e w6 ⟨rfl, hb⟩
      have BB6 := Lib.hid (BB5.out.trans (hb.mono BB5.out.size))
      clear hb
      obtain ⟨c0, c1, c2, c3, c4⟩ := KC.out _ BB6.out
      go_wp2_with fail
      go_ret
      exact ⟨rfl, B1.out.trans (BB6.out.mono B1.out.size)⟩
    by_cases g6 : 4611686018427387903 - now < l
    · have QD := Lib.hid (due_any a f k m l now hp g0 w0b)
      rw [show duOk l now = false by simp [duOk, g6]] at QD
      simp only [if_false, Bool.false_eq_true] at QD
      have g7 : 4611686018427387903 - l < now := by omega
      unfold pol at QR HQW HQA QD ⊢
      go_enter Try.func7, Try.ntmps7
      go_upto_region 1 with fail
      rw [← HW1.out, ← HG.out]
      go_wp2_with fail
      refine (tries_any w1).mono ?_
      rintro e w2 ⟨rfl, hb⟩
      have BB2 := Lib.hid (BB1.out.trans (hb.mono BB1.out.size))
      clear hb
      obtain ⟨c0, c1, c2, c3, c4⟩ := KC.out _ BB2.out
      go_wp2_with fail
      clear c0 c1 c2 c3 c4
      refine (QR.out _).mono ?_
      rintro e w3 ⟨rfl, hb⟩
      have BB3 := Lib.hid (BB2.out.trans (hb.mono BB2.out.size))
      clear hb
      obtain ⟨c0, c1, c2, c3, c4⟩ := KC.out _ BB3.out
      go_wp2_with fail
      clear c0 c1 c2 c3 c4
      refine (HQW.out _).mono ?_
      rintro e w4 ⟨rfl, hb⟩
      have BB4 := Lib.hid (BB3.out.trans (hb.mono BB3.out.size))
      clear hb
      obtain ⟨c0, c1, c2, c3, c4⟩ := KC.out _ BB4.out
      go_wp2_with fail
      clear c0 c1 c2 c3 c4
      refine (HQA.out _).mono ?_
      rintro e w5 ⟨rfl, hb⟩
      have BB5 := Lib.hid (BB4.out.trans (hb.mono BB4.out.size))
      clear hb
      obtain ⟨c0, c1, c2, c3, c4⟩ := KC.out _ BB5.out
      go_wp2_with fail
      clear c0 c1 c2 c3 c4
      refine (QD.out _).mono ?_
      rintro e w6 ⟨rfl, hb⟩
      have BB6 := Lib.hid (BB5.out.trans (hb.mono BB5.out.size))
      clear hb
      obtain ⟨c0, c1, c2, c3, c4⟩ := KC.out _ BB6.out
      go_wp2_with fail
      go_ret
      exact ⟨rfl, B1.out.trans (BB6.out.mono B1.out.size)⟩
    have QD := Lib.hid (due_any a f k m l now hp g0 w0b)
    rw [show duOk l now = true by simp [duOk, g5]; omega] at QD
    simp only [if_true] at QD
    have g7 : decide (4611686018427387903 - l < now) = false := by simp; omega
    have g8 : now + l ≤ 4611686018427387903 := by omega
    unfold pol at QR HQW HQA QD ⊢
    go_enter Try.func7, Try.ntmps7
    go_upto_region 1 with fail
    rw [← HW1.out, ← HG.out]
    go_wp2_with fail
    refine (tries_any w1).mono ?_
    rintro e w2 ⟨rfl, hb⟩
    have BB2 := Lib.hid (BB1.out.trans (hb.mono BB1.out.size))
    clear hb
    obtain ⟨c0, c1, c2, c3, c4⟩ := KC.out _ BB2.out
    go_wp2_with fail
    clear c0 c1 c2 c3 c4
    refine (QR.out _).mono ?_
    rintro e w3 ⟨rfl, hb⟩
    have BB3 := Lib.hid (BB2.out.trans (hb.mono BB2.out.size))
    clear hb
    obtain ⟨c0, c1, c2, c3, c4⟩ := KC.out _ BB3.out
    go_wp2_with fail
    clear c0 c1 c2 c3 c4
    refine (HQW.out _).mono ?_
    rintro e w4 ⟨rfl, hb⟩
    have BB4 := Lib.hid (BB3.out.trans (hb.mono BB3.out.size))
    clear hb
    obtain ⟨c0, c1, c2, c3, c4⟩ := KC.out _ BB4.out
    go_wp2_with fail
    clear c0 c1 c2 c3 c4
    refine (HQA.out _).mono ?_
    rintro e w5 ⟨rfl, hb⟩
    have BB5 := Lib.hid (BB4.out.trans (hb.mono BB4.out.size))
    clear hb
    obtain ⟨c0, c1, c2, c3, c4⟩ := KC.out _ BB5.out
    go_wp2_with fail
    clear c0 c1 c2 c3 c4
    refine (QD.out _).mono ?_
    rintro e w6 ⟨rfl, hb⟩
    have BB6 := Lib.hid (BB5.out.trans (hb.mono BB5.out.size))
    clear hb
    obtain ⟨c0, c1, c2, c3, c4⟩ := KC.out _ BB6.out
    go_wp2_with fail
    go_ret
    exact ⟨rfl, B1.out.trans (BB6.out.mono B1.out.size)⟩
  · rw [ok] at QW QA
    simp only [if_true, if_false, Bool.false_eq_true, Bool.true_and, Bool.false_and] at QW QA
    have HQW := Lib.hid QW
    clear QW ok
    by_cases g0 : now < 0
    · rw [show decide (0 ≤ now) = false by simp; omega] at QA
      simp only [if_false, Bool.false_eq_true] at QA
      have HQA := Lib.hid QA
      clear QA
      unfold pol at QR HQW HQA ⊢
      go_enter Try.func7, Try.ntmps7
      go_upto_region 1 with fail
      rw [← HW1.out, ← HG.out]
      go_wp2_with fail
      refine (tries_any w1).mono ?_
      rintro e w2 ⟨rfl, hb⟩
      have BB2 := Lib.hid (BB1.out.trans (hb.mono BB1.out.size))
      clear hb
      obtain ⟨c0, c1, c2, c3, c4⟩ := KC.out _ BB2.out
      go_wp2_with fail
      clear c0 c1 c2 c3 c4
      refine (QR.out _).mono ?_
      rintro e w3 ⟨rfl, hb⟩
      have BB3 := Lib.hid (BB2.out.trans (hb.mono BB2.out.size))
      clear hb
      obtain ⟨c0, c1, c2, c3, c4⟩ := KC.out _ BB3.out
      go_wp2_with fail
      clear c0 c1 c2 c3 c4
      refine (HQW.out _).mono ?_
      rintro e w4 ⟨rfl, hb⟩
      have BB4 := Lib.hid (BB3.out.trans (hb.mono BB3.out.size))
      clear hb
      obtain ⟨c0, c1, c2, c3, c4⟩ := KC.out _ BB4.out
      go_wp2_with fail
      clear c0 c1 c2 c3 c4
      refine (HQA.out _).mono ?_
      rintro e w5 ⟨rfl, hb⟩
      have BB5 := Lib.hid (BB4.out.trans (hb.mono BB4.out.size))
      clear hb
      obtain ⟨c0, c1, c2, c3, c4⟩ := KC.out _ BB5.out
      go_wp2_with fail
      go_ret
      exact ⟨rfl, B1.out.trans (BB5.out.mono B1.out.size)⟩
    replace g0 : 0 ≤ now := by omega
    rw [show decide (0 ≤ now) = true by simp [g0]] at QA
    simp only [if_true] at QA
    unfold agS at QA
    by_cases g1 : 4611686018427387903 - now < T
    · rw [if_pos g1] at QA
      have HQA := Lib.hid QA
      clear QA
      by_cases g5 : l = 0
      · have QD := Lib.hid (due_any a f k m l now hp g0 w0b)
        rw [show duOk l now = false by simp [duOk, g5]] at QD
        simp only [if_false, Bool.false_eq_true] at QD
        subst g5
        unfold pol at QR HQW HQA QD ⊢
        go_enter Try.func7, Try.ntmps7
        go_upto_region 1 with fail
        rw [← HW1.out, ← HG.out]
        go_wp2_with fail
        refine (tries_any w1).mono ?_
        rintro e w2 ⟨rfl, hb⟩
        have BB2 := Lib.hid (BB1.out.trans (hb.mono BB1.out.size))
        clear hb
        obtain ⟨c0, c1, c2, c3, c4⟩ := KC.out _ BB2.out
        go_wp2_with fail
        clear c0 c1 c2 c3 c4
        refine (QR.out _).mono ?_
        rintro e w3 ⟨rfl, hb⟩
        have BB3 := Lib.hid (BB2.out.trans (hb.mono BB2.out.size))
        clear hb
        obtain ⟨c0, c1, c2, c3, c4⟩ := KC.out _ BB3.out
        go_wp2_with fail
        clear c0 c1 c2 c3 c4
        refine (HQW.out _).mono ?_
        rintro e w4 ⟨rfl, hb⟩
        have BB4 := Lib.hid (BB3.out.trans (hb.mono BB3.out.size))
        clear hb
        obtain ⟨c0, c1, c2, c3, c4⟩ := KC.out _ BB4.out
        go_wp2_with fail
        clear c0 c1 c2 c3 c4
        refine (HQA.out _).mono ?_
        rintro e w5 ⟨rfl, hb⟩
        have BB5 := Lib.hid (BB4.out.trans (hb.mono BB4.out.size))
        clear hb
        obtain ⟨c0, c1, c2, c3, c4⟩ := KC.out _ BB5.out
        go_wp2_with fail
        clear c0 c1 c2 c3 c4
        refine (QD.out _).mono ?_
        rintro e w6 ⟨rfl, hb⟩
        have BB6 := Lib.hid (BB5.out.trans (hb.mono BB5.out.size))
        clear hb
        obtain ⟨c0, c1, c2, c3, c4⟩ := KC.out _ BB6.out
        go_wp2_with fail
        go_ret
        exact ⟨rfl, B1.out.trans (BB6.out.mono B1.out.size)⟩
      by_cases g6 : 4611686018427387903 - now < l
      · have QD := Lib.hid (due_any a f k m l now hp g0 w0b)
        rw [show duOk l now = false by simp [duOk, g6]] at QD
        simp only [if_false, Bool.false_eq_true] at QD
        have g7 : 4611686018427387903 - l < now := by omega
        unfold pol at QR HQW HQA QD ⊢
        go_enter Try.func7, Try.ntmps7
        go_upto_region 1 with fail
        rw [← HW1.out, ← HG.out]
        go_wp2_with fail
        refine (tries_any w1).mono ?_
        rintro e w2 ⟨rfl, hb⟩
        have BB2 := Lib.hid (BB1.out.trans (hb.mono BB1.out.size))
        clear hb
        obtain ⟨c0, c1, c2, c3, c4⟩ := KC.out _ BB2.out
        go_wp2_with fail
        clear c0 c1 c2 c3 c4
        refine (QR.out _).mono ?_
        rintro e w3 ⟨rfl, hb⟩
        have BB3 := Lib.hid (BB2.out.trans (hb.mono BB2.out.size))
        clear hb
        obtain ⟨c0, c1, c2, c3, c4⟩ := KC.out _ BB3.out
        go_wp2_with fail
        clear c0 c1 c2 c3 c4
        refine (HQW.out _).mono ?_
        rintro e w4 ⟨rfl, hb⟩
        have BB4 := Lib.hid (BB3.out.trans (hb.mono BB3.out.size))
        clear hb
        obtain ⟨c0, c1, c2, c3, c4⟩ := KC.out _ BB4.out
        go_wp2_with fail
        clear c0 c1 c2 c3 c4
        refine (HQA.out _).mono ?_
        rintro e w5 ⟨rfl, hb⟩
        have BB5 := Lib.hid (BB4.out.trans (hb.mono BB4.out.size))
        clear hb
        obtain ⟨c0, c1, c2, c3, c4⟩ := KC.out _ BB5.out
        go_wp2_with fail
        clear c0 c1 c2 c3 c4
        refine (QD.out _).mono ?_
        rintro e w6 ⟨rfl, hb⟩
        have BB6 := Lib.hid (BB5.out.trans (hb.mono BB5.out.size))
        clear hb
        obtain ⟨c0, c1, c2, c3, c4⟩ := KC.out _ BB6.out
        go_wp2_with fail
        go_ret
        exact ⟨rfl, B1.out.trans (BB6.out.mono B1.out.size)⟩
      have QD := Lib.hid (due_any a f k m l now hp g0 w0b)
      rw [show duOk l now = true by simp [duOk, g5]; omega] at QD
      simp only [if_true] at QD
      have g7 : decide (4611686018427387903 - l < now) = false := by simp; omega
      have g8 : now + l ≤ 4611686018427387903 := by omega
      unfold pol at QR HQW HQA QD ⊢
      go_enter Try.func7, Try.ntmps7
      go_upto_region 1 with fail
      rw [← HW1.out, ← HG.out]
      go_wp2_with fail
      refine (tries_any w1).mono ?_
      rintro e w2 ⟨rfl, hb⟩
      have BB2 := Lib.hid (BB1.out.trans (hb.mono BB1.out.size))
      clear hb
      obtain ⟨c0, c1, c2, c3, c4⟩ := KC.out _ BB2.out
      go_wp2_with fail
      clear c0 c1 c2 c3 c4
      refine (QR.out _).mono ?_
      rintro e w3 ⟨rfl, hb⟩
      have BB3 := Lib.hid (BB2.out.trans (hb.mono BB2.out.size))
      clear hb
      obtain ⟨c0, c1, c2, c3, c4⟩ := KC.out _ BB3.out
      go_wp2_with fail
      clear c0 c1 c2 c3 c4
      refine (HQW.out _).mono ?_
      rintro e w4 ⟨rfl, hb⟩
      have BB4 := Lib.hid (BB3.out.trans (hb.mono BB3.out.size))
      clear hb
      obtain ⟨c0, c1, c2, c3, c4⟩ := KC.out _ BB4.out
      go_wp2_with fail
      clear c0 c1 c2 c3 c4
      refine (HQA.out _).mono ?_
      rintro e w5 ⟨rfl, hb⟩
      have BB5 := Lib.hid (BB4.out.trans (hb.mono BB4.out.size))
      clear hb
      obtain ⟨c0, c1, c2, c3, c4⟩ := KC.out _ BB5.out
      go_wp2_with fail
      clear c0 c1 c2 c3 c4
      refine (QD.out _).mono ?_
      rintro e w6 ⟨rfl, hb⟩
      have BB6 := Lib.hid (BB5.out.trans (hb.mono BB5.out.size))
      clear hb
      obtain ⟨c0, c1, c2, c3, c4⟩ := KC.out _ BB6.out
      go_wp2_with fail
      go_ret
      exact ⟨rfl, B1.out.trans (BB6.out.mono B1.out.size)⟩
    · rw [if_neg g1] at QA
      have HQA := Lib.hid QA
      clear QA
      have g9 : now + T ≤ 4611686018427387903 := by omega
      by_cases g5 : l = 0
      · have QD := Lib.hid (due_any a f k m l now hp g0 w0b)
        rw [show duOk l now = false by simp [duOk, g5]] at QD
        simp only [if_false, Bool.false_eq_true] at QD
        subst g5
        unfold pol at QR HQW HQA QD ⊢
        go_enter Try.func7, Try.ntmps7
        go_upto_region 1 with fail
        rw [← HW1.out, ← HG.out]
        go_wp2_with fail
        refine (tries_any w1).mono ?_
        rintro e w2 ⟨rfl, hb⟩
        have BB2 := Lib.hid (BB1.out.trans (hb.mono BB1.out.size))
        clear hb
        obtain ⟨c0, c1, c2, c3, c4⟩ := KC.out _ BB2.out
        go_wp2_with fail
        clear c0 c1 c2 c3 c4
        refine (QR.out _).mono ?_
        rintro e w3 ⟨rfl, hb⟩
        have BB3 := Lib.hid (BB2.out.trans (hb.mono BB2.out.size))
        clear hb
        obtain ⟨c0, c1, c2, c3, c4⟩ := KC.out _ BB3.out
        go_wp2_with fail
        clear c0 c1 c2 c3 c4
        refine (HQW.out _).mono ?_
        rintro e w4 ⟨rfl, hb⟩
        have BB4 := Lib.hid (BB3.out.trans (hb.mono BB3.out.size))
        clear hb
        obtain ⟨c0, c1, c2, c3, c4⟩ := KC.out _ BB4.out
        go_wp2_with fail
        clear c0 c1 c2 c3 c4
        refine (HQA.out _).mono ?_
        rintro e w5 ⟨rfl, hb⟩
        have BB5 := Lib.hid (BB4.out.trans (hb.mono BB4.out.size))
        clear hb
        obtain ⟨c0, c1, c2, c3, c4⟩ := KC.out _ BB5.out
        go_wp2_with fail
        clear c0 c1 c2 c3 c4
        refine (QD.out _).mono ?_
        rintro e w6 ⟨rfl, hb⟩
        have BB6 := Lib.hid (BB5.out.trans (hb.mono BB5.out.size))
        clear hb
        obtain ⟨c0, c1, c2, c3, c4⟩ := KC.out _ BB6.out
        go_wp2_with fail
        go_ret
        exact ⟨rfl, B1.out.trans (BB6.out.mono B1.out.size)⟩
      by_cases g6 : 4611686018427387903 - now < l
      · have QD := Lib.hid (due_any a f k m l now hp g0 w0b)
        rw [show duOk l now = false by simp [duOk, g6]] at QD
        simp only [if_false, Bool.false_eq_true] at QD
        have g7 : 4611686018427387903 - l < now := by omega
        unfold pol at QR HQW HQA QD ⊢
        go_enter Try.func7, Try.ntmps7
        go_upto_region 1 with fail
        rw [← HW1.out, ← HG.out]
        go_wp2_with fail
        refine (tries_any w1).mono ?_
        rintro e w2 ⟨rfl, hb⟩
        have BB2 := Lib.hid (BB1.out.trans (hb.mono BB1.out.size))
        clear hb
        obtain ⟨c0, c1, c2, c3, c4⟩ := KC.out _ BB2.out
        go_wp2_with fail
        clear c0 c1 c2 c3 c4
        refine (QR.out _).mono ?_
        rintro e w3 ⟨rfl, hb⟩
        have BB3 := Lib.hid (BB2.out.trans (hb.mono BB2.out.size))
        clear hb
        obtain ⟨c0, c1, c2, c3, c4⟩ := KC.out _ BB3.out
        go_wp2_with fail
        clear c0 c1 c2 c3 c4
        refine (HQW.out _).mono ?_
        rintro e w4 ⟨rfl, hb⟩
        have BB4 := Lib.hid (BB3.out.trans (hb.mono BB3.out.size))
        clear hb
        obtain ⟨c0, c1, c2, c3, c4⟩ := KC.out _ BB4.out
        go_wp2_with fail
        clear c0 c1 c2 c3 c4
        refine (HQA.out _).mono ?_
        rintro e w5 ⟨rfl, hb⟩
        have BB5 := Lib.hid (BB4.out.trans (hb.mono BB4.out.size))
        clear hb
        obtain ⟨c0, c1, c2, c3, c4⟩ := KC.out _ BB5.out
        go_wp2_with fail
        clear c0 c1 c2 c3 c4
        refine (QD.out _).mono ?_
        rintro e w6 ⟨rfl, hb⟩
        have BB6 := Lib.hid (BB5.out.trans (hb.mono BB5.out.size))
        clear hb
        obtain ⟨c0, c1, c2, c3, c4⟩ := KC.out _ BB6.out
        go_wp2_with fail
        go_ret
        exact ⟨rfl, B1.out.trans (BB6.out.mono B1.out.size)⟩
      have QD := Lib.hid (due_any a f k m l now hp g0 w0b)
      rw [show duOk l now = true by simp [duOk, g5]; omega] at QD
      simp only [if_true] at QD
      have g7 : decide (4611686018427387903 - l < now) = false := by simp; omega
      have g8 : now + l ≤ 4611686018427387903 := by omega
      unfold pol at QR HQW HQA QD ⊢
      go_enter Try.func7, Try.ntmps7
      go_upto_region 1 with fail
      rw [← HW1.out, ← HG.out]
      go_wp2_with fail
      refine (tries_any w1).mono ?_
      rintro e w2 ⟨rfl, hb⟩
      have BB2 := Lib.hid (BB1.out.trans (hb.mono BB1.out.size))
      clear hb
      obtain ⟨c0, c1, c2, c3, c4⟩ := KC.out _ BB2.out
      go_wp2_with fail
      clear c0 c1 c2 c3 c4
      refine (QR.out _).mono ?_
      rintro e w3 ⟨rfl, hb⟩
      have BB3 := Lib.hid (BB2.out.trans (hb.mono BB2.out.size))
      clear hb
      obtain ⟨c0, c1, c2, c3, c4⟩ := KC.out _ BB3.out
      go_wp2_with fail
      clear c0 c1 c2 c3 c4
      refine (HQW.out _).mono ?_
      rintro e w4 ⟨rfl, hb⟩
      have BB4 := Lib.hid (BB3.out.trans (hb.mono BB3.out.size))
      clear hb
      obtain ⟨c0, c1, c2, c3, c4⟩ := KC.out _ BB4.out
      go_wp2_with fail
      clear c0 c1 c2 c3 c4
      refine (HQA.out _).mono ?_
      rintro e w5 ⟨rfl, hb⟩
      have BB5 := Lib.hid (BB4.out.trans (hb.mono BB4.out.size))
      clear hb
      obtain ⟨c0, c1, c2, c3, c4⟩ := KC.out _ BB5.out
      go_wp2_with fail
      clear c0 c1 c2 c3 c4
      refine (QD.out _).mono ?_
      rintro e w6 ⟨rfl, hb⟩
      have BB6 := Lib.hid (BB5.out.trans (hb.mono BB5.out.size))
      clear hb
      obtain ⟨c0, c1, c2, c3, c4⟩ := KC.out _ BB6.out
      go_wp2_with fail
      go_ret
      exact ⟨rfl, B1.out.trans (BB6.out.mono B1.out.size)⟩
end Go.Proofs.Ytogkjiiemflglaa
