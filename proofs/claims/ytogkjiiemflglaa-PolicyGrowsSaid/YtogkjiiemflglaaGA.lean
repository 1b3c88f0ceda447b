/- The walk of PolicyGrows. -/
import Derived.Test.YtogkjiiemflglaaG6
namespace Go.Proofs.Ytogkjiiemflglaa
open Go Go.RowKit
set_option linter.unusedVariables false
set_option linter.unusedSimpArgs false
/-- The last wait behind so many tries. -/
def lsV (f k m : Int) : Nat → Int
  | 0 => 0
  | j + 1 => wtM m (wtN f k m j)
theorem wtM_mono {m x y : Int} (h : x ≤ y) : wtM m x ≤ wtM m y := by
  unfold wtM
  by_cases g1 : m ≠ 0 ∧ m < x
  · rw [if_pos g1, if_pos ⟨g1.1, by omega⟩]; exact Int.le_refl _
  · rw [if_neg g1]
    by_cases g2 : m ≠ 0 ∧ m < y
    · rw [if_pos g2]; omega
    · rw [if_neg g2]; exact h
theorem lsV_next {f k m : Int} (hf : 0 ≤ f) (hf' : f ≤ 63) (hk : 1 ≤ k) (hk' : k ≤ 7) (hm : 0 ≤ m) (j : Nat) : lsV f k m j ≤ lsV f k m (j + 1) ∧ 0 ≤ lsV f k m (j + 1) ∧ (0 < m → lsV f k m (j + 1) ≤ m) ∧ lsV f k m (j + 1) < 4611686018427387900 := by
  have b := wtN_bound (m := m) hf hf' hk hk' j
  have c : 0 ≤ lsV f k m (j + 1) := by
    show 0 ≤ wtM m (wtN f k m j)
    unfold wtM
    by_cases g : m ≠ 0 ∧ m < wtN f k m j
    · rw [if_pos g]; exact hm
    · rw [if_neg g]; exact b.1
  refine ⟨?_, c, ?_, ?_⟩
  · cases j with
    | zero => exact c
    | succ j => exact wtM_mono (wtN_mono hf hf' hk hk' j)
  · intro hp
    show wtM m (wtN f k m j) ≤ m
    unfold wtM
    by_cases g : m ≠ 0 ∧ m < wtN f k m j
    · rw [if_pos g]; exact Int.le_refl _
    · rw [if_neg g]; omega
  · show wtM m (wtN f k m j) < _
    unfold wtM
    by_cases g : m ≠ 0 ∧ m < wtN f k m j
    · rw [if_pos g]; omega
    · rw [if_neg g]; exact b.2
def GrRel (a f k m : Int) (w1 : World) (ls n i : Value) (wr : World) : Prop := ∃ j : Nat, ls = .int .i64 (lsV f k m j) ∧ n = .int .i64 (j : Int) ∧ i = .int .i64 ((j : Int) + 1) ∧ j ≤ 40 ∧ (a = 0 ∨ (j : Int) < a) ∧ Below w1.heap.size w1 wr
set_option maxHeartbeats 16000000 in
set_option maxRecDepth 100000 in
theorem grows_any (a f k m l : Int) (w : World) : Calls Try.prog 6 #[pol a f k m l] w fun e w' => e = .returned (.bool true) ∧ Below w.heap.size w w' := by
  obtain ⟨w1, hw1⟩ : ∃ w1, w1 = w.alloc (.cells #[.int .i64 a, .int .i64 f, .int .i64 k, .int .i64 m, .int .i64 l] 23) := ⟨_, rfl⟩
  obtain ⟨g, hg⟩ : ∃ g, g = w.heap.size := ⟨_, rfl⟩
  have b1 : Below w.heap.size w w1 := by rw [hw1]; exact below_new _ _
  have nk : w1.heap[g]? = some (.cells #[.int .i64 a, .int .i64 f, .int .i64 k, .int .i64 m, .int .i64 l] 23 (0, 0)) := by rw [hw1, hg]; exact heap_alloc_new _ _
  have KC := Lib.hid (fun (W : World) (h : Below w1.heap.size w1 W) => polCB nk h)
  have HW1 := Lib.hid hw1
  have HG := Lib.hid hg
  have B1 := Lib.hid b1
  have BB1 := Lib.hid (Below.refl w1.heap.size w1)
  clear hw1 hg b1 nk
  have QR := Lib.hid (right_any a f k m l)
  cases hp : okP a f k m l
  · rw [hp] at QR
    unfold pol at QR ⊢
    go_enter Try.func6, Try.ntmps6
    go_upto_region 1 with fail
    rw [← HW1.out, ← HG.out]
    go_wp2_with fail
    refine (tries_any w1).mono ?_
    rintro e w2 ⟨rfl, hb⟩
    have BB2 := Lib.hid (BB1.out.trans (hb.mono BB1.out.size))
    clear hb
    obtain ⟨c0, c1, c2, c3, c4⟩ := KC.out _ BB2.out
    go_wp2_with fail
    clear c0 c1 c2 c3 c4
    refine (QR.out _).mono ?_
    rintro e w3 ⟨rfl, hb⟩
    have BB3 := Lib.hid (BB2.out.trans (hb.mono BB2.out.size))
    clear hb
    obtain ⟨c0, c1, c2, c3, c4⟩ := KC.out _ BB3.out
    go_wp2_with fail
    go_ret
    exact ⟨rfl, B1.out.trans (BB3.out.mono B1.out.size)⟩
  rw [hp] at QR
  obtain ⟨h1, h2, h3, h4, h5, h6, h7, h8, h9, h10⟩ := (okP_iff a f k m l).mp hp
  have HS := Lib.hid (fun j => lsV_next (f := f) (k := k) (m := m) h3 h4 h5 h6 h7 j)
  have QY := Lib.hid (show ∀ (j : Nat), j < 40 → (a = 0 ∨ (j : Int) + 1 < a) → ∀ W, Calls Try.prog 13 #[pol a f k m l, .int .i64 ((j : Int) + 1)] W fun e w' => e = .returned (.tuple #[.int .i64 (lsV f k m (j + 1)), .bool true]) ∧ Below W.heap.size W w' from fun j hj ha W => by
    have h := wait_any a f k m l ((j : Int) + 1) hp (by omega) W
    have ok : wtOk a ((j : Int) + 1) = true := by simp [wtOk]; omega
    rw [wtV, ok, if_pos rfl, wtW_at (i := j) (by omega) h3 h5] at h
    exact h)
  have QX := Lib.hid (show ∀ (j : Nat), j < 40 → ¬(a = 0 ∨ (j : Int) + 1 < a) → ∀ W, Calls Try.prog 13 #[pol a f k m l, .int .i64 ((j : Int) + 1)] W fun e w' => e = .returned (.tuple #[.int .i64 0, .bool false]) ∧ Below W.heap.size W w' from fun j hj ha W => by
    have h := wait_any a f k m l ((j : Int) + 1) hp (by omega) W
    have ok : wtOk a ((j : Int) + 1) = false := by simp [wtOk]; omega
    rw [wtV, ok, if_neg (by simp)] at h
    exact h)
  clear hp
  unfold pol at QR QX QY ⊢
  go_enter Try.func6, Try.ntmps6
  go_upto_region 1 with fail
  rw [← HW1.out, ← HG.out]
  go_wp2_with fail
  refine (tries_any w1).mono ?_
  rintro e w2 ⟨rfl, hb⟩
  have BB2 := Lib.hid (BB1.out.trans (hb.mono BB1.out.size))
  clear hb
  obtain ⟨c0, c1, c2, c3, c4⟩ := KC.out _ BB2.out
  go_wp2_with fail
  clear c0 c1 c2 c3 c4
  refine (QR.out _).mono ?_
  rintro e w3 ⟨rfl, hb⟩
  have BB3 := Lib.hid (BB2.out.trans (hb.mono BB2.out.size))
  clear hb
  go_wp2_with fail
  go_loopw [3, 4, 5] (fun ls n i wr => GrRel a f k m w1 ls n i wr) (fun _ _ i _ => 41 - (intOf i).toNat)
  case atStart => exact ⟨0, rfl, rfl, rfl, by omega, by omega, BB3.out⟩
  case round =>
    obtain ⟨wq, rfl⟩ : ∃ wq : World, wq = wr := ⟨_, rfl⟩
    obtain ⟨j, rfl, rfl, rfl, hj, ha, hb⟩ := hrel
    have BBq := Lib.hid hb
    have q0 : (0 : Int) ≤ (j : Int) := by omega
    have q9 : (j : Int) ≤ 40 := by omega
    clear hb
    by_cases hj4 : j < 40
    · have q1 : (j : Int) + 1 ≤ 40 := by omega
      by_cases ok : a = 0 ∨ (j : Int) + 1 < a
      · obtain ⟨n1, n2, n3, n4⟩ := HS.out j
        have QW := Lib.hid (QY.out j hj4 ok)
        obtain ⟨T, hT⟩ : ∃ T, T = lsV f k m (j + 1) := ⟨_, rfl⟩
        obtain ⟨L, hL⟩ : ∃ T, T = lsV f k m j := ⟨_, rfl⟩
        rw [← hT] at n1 n2 n3 n4 QW
        rw [← hL] at n1 ⊢
        have HT := Lib.hid hT
        have N3 := Lib.hid n3
        have OK := Lib.hid ok
        clear hT hL n3 ok ha
        obtain ⟨c0, c1, c2, c3, c4⟩ := KC.out _ BBq.out
        go_wp2_with fail
        clear c0 c1 c2 c3 c4
        refine (QW.out wq).mono ?_
        rintro e wz ⟨rfl, hb⟩
        have BBz := Lib.hid (BBq.out.trans (hb.mono BBq.out.size))
        clear hb
        obtain ⟨c0, c1, c2, c3, c4⟩ := KC.out _ BBz.out
        by_cases g0 : 0 < m
        · have n5 : T ≤ m := N3.out g0
          go_wp2_with fail
          go_round
          case rel => exact ⟨j + 1, by rw [HT.out], by go_num, by go_num, by omega, (by have := OK.out; omega), BBz.out⟩
          case measure => simp [intOf]; omega
        · go_wp2_with fail
          go_round
          case rel => exact ⟨j + 1, by rw [HT.out], by go_num, by go_num, by omega, (by have := OK.out; omega), BBz.out⟩
          case measure => simp [intOf]; omega
      · have QW := Lib.hid (QX.out j hj4 ok)
        obtain rfl : a = (j : Int) + 1 := by omega
        obtain ⟨L, hL⟩ : ∃ T, T = lsV f k m j := ⟨_, rfl⟩
        rw [← hL]
        clear hL HS QX QY ok ha
        obtain ⟨c0, c1, c2, c3, c4⟩ := KC.out _ BBq.out
        go_wp2_with fail
        clear c0 c1 c2 c3 c4
        refine (QW.out wq).mono ?_
        rintro e wz ⟨rfl, hb⟩
        have BBz := Lib.hid (BBq.out.trans (hb.mono BBq.out.size))
        clear hb
        obtain ⟨c0, c1, c2, c3, c4⟩ := KC.out _ BBz.out
        go_wp2_with fail
        go_ret
        exact ⟨rfl, B1.out.trans (BBz.out.mono B1.out.size)⟩
    · obtain ⟨L, hL⟩ : ∃ T, T = lsV f k m j := ⟨_, rfl⟩
      rw [← hL]
      clear hL HS QX QY
      obtain rfl : j = 40 := by omega
      obtain rfl : a = 0 := by omega
      obtain ⟨c0, c1, c2, c3, c4⟩ := KC.out _ BBq.out
      go_wp2_with fail
      go_ret
      exact ⟨rfl, B1.out.trans (BBq.out.mono B1.out.size)⟩
end Go.Proofs.Ytogkjiiemflglaa
