/- What ring.Open makes. -/
import Derived.Test.YtllnaocnojhlkaaUb
namespace Go.Proofs.Ytllnaocnojhlkaa.Dk
open Go Go.RowKit
set_option linter.unusedVariables false
set_option linter.unusedSimpArgs false

theorem rsector_pre {w : World} {r d first count tail : Nat} {v4 : Value} (hblk : w.heap[r]? = some (.cells #[.pointer (some ⟨d, 0, none⟩), .int .i64 (first : Int), .int .i64 (count : Int), .int .u64 (tail : Int), v4] 115 (0, 0))) (hcnt : 1 ≤ count) (hf : first + count ≤ 4096) (n : Nat) (hn : n < 18446744073709551616) :
    Calls Try.prog 48 #[.pointer (some ⟨r, 0, none⟩), .int .u64 (n : Int)] w fun e w' => e = .returned (.int .i64 ((sec first count n : Nat) : Int)) ∧ ∃ m, w' = w.drewN m := by
  have q1 : w.cell? ⟨r, 1, none⟩ = some (.int .i64 (first : Int)) := by rw [cell_of_row w r 1 _ _ _ hblk]; rfl
  have q2 : w.cell? ⟨r, 2, none⟩ = some (.int .i64 (count : Int)) := by rw [cell_of_row w r 2 _ _ _ hblk]; rfl
  have hci : ¬ (count : Int) = 0 := by omega
  have HN := Lib.hid hn
  clear hblk hn
  go_enter Try.func48, Try.ntmps48
  go_wp2_with fail
  go_quiet (fail)
  go_wp2_with fail
  go_ret
  exact ⟨ret_i64 (secI HN.out hf hcnt), _, rfl⟩
variable {w : World} {d g m n : Nat} {x : DS}
theorem open_bad (h : DiskAt Try.prog w d g m n x) (first count : Int) (hf : wfi first) (hc : wfi count) (tail : Int) (hb : first < 0 ∨ count < 1 ∨ (x.s.length : Int) - count < first) :
    Calls Try.prog 17 #[.pointer (some ⟨d, 0, none⟩), .int .i64 first, .int .i64 count, .int .u64 tail] w fun e w' => e = .returned (.tuple #[.pointer none, .int .i64 1]) ∧ w = w' := by
  have SC := Lib.hid (sectors_any h)
  have hfw := h.few
  have b1 := bounds_i64 hf
  have b2 := bounds_i64 hc
  by_cases c1 : first < 0
  · clear h hf hc hb
    go_enter Try.func17, Try.ntmps17
    go_wp2_with (go_at_call 47; refine SC.out.mono ?_; rintro e w' ⟨rfl, rfl⟩)
    go_ret2
    exact ⟨rfl, rfl⟩
  · by_cases c2 : count < 1
    · clear h hf hc hb
      go_enter Try.func17, Try.ntmps17
      go_wp2_with (go_at_call 47; refine SC.out.mono ?_; rintro e w' ⟨rfl, rfl⟩)
      go_ret2
      exact ⟨rfl, rfl⟩
    · have c3 : (x.s.length : Int) - count < first := by omega
      clear h hf hc hb
      go_enter Try.func17, Try.ntmps17
      go_wp2_with (go_at_call 47; refine SC.out.mono ?_; rintro e w' ⟨rfl, rfl⟩)
      go_ret2
      exact ⟨rfl, rfl⟩
set_option maxRecDepth 100000 in
set_option maxHeartbeats 2000000 in
theorem open_good (h : DiskAt Try.prog w d g m n x) (first count tail : Nat) (hc : 1 ≤ count) (hb : first + count ≤ x.s.length) (ht : tail < 18446744073709551616) (hr0 : (x.read (sec first count tail : Nat)).2 = 0) :
    Calls Try.prog 17 #[.pointer (some ⟨d, 0, none⟩), .int .i64 (first : Int), .int .i64 (count : Int), .int .u64 (tail : Int)] w fun e w' => ∃ r k, e = .returned (.tuple #[.pointer (some ⟨r, 0, none⟩), .int .i64 0]) ∧ RingAt w' r d k first count tail (x.read (sec first count tail : Nat)).1 121 ∧ Below w.heap.size w w' ∧ w.heap.size ≤ r ∧ w.heap.size ≤ k := by
  have SC := Lib.hid (sectors_any h)
  have hfw := h.few
  have c1 : ¬ (first : Int) < 0 := by omega
  have c2 : ¬ (count : Int) < 1 := by omega
  have c3 : ¬ (x.s.length : Int) - (count : Int) < (first : Int) := by omega
  have hsb : sec first count tail < 4096 := by
    unfold sec
    have := Nat.mod_lt (tail / 128) (show 0 < count by omega)
    omega
  obtain ⟨sc, hsc⟩ : ∃ sc, sc = sec first count tail := ⟨_, rfl⟩
  rw [← hsc] at hr0 hsb ⊢
  obtain ⟨w1, hw1⟩ : ∃ w1, w1 = w.alloc (.cells #[.pointer (some ⟨d, 0, none⟩), .int .i64 (first : Int), .int .i64 (count : Int), .int .u64 (tail : Int), .slice none 0 0] 115) := ⟨_, rfl⟩
  have hb1 := heap_alloc_new w (.cells #[.pointer (some ⟨d, 0, none⟩), .int .i64 (first : Int), .int .i64 (count : Int), .int .u64 (tail : Int), .slice none 0 0] 115)
  rw [← hw1] at hb1
  have RS := Lib.hid (show Calls Try.prog 48 #[.pointer (some ⟨w.heap.size, 0, none⟩), .int .u64 (tail : Int)] w1 fun e w' => e = .returned (.int .i64 (sc : Int)) ∧ ∃ m, w' = w1.drewN m by rw [hsc]; exact rsector_pre hb1 hc (by omega) tail ht)
  have HD1 := Lib.hid (show DiskAt Try.prog w1 d g m n x by rw [hw1]; exact h.alloc _)
  have HW := Lib.hid hw1
  have HB1 := Lib.hid hb1
  have B1 := Lib.hid (show Below w.heap.size w w1 by rw [hw1]; exact (Below.refl _ _).alloc (Nat.le_refl _) _)
  have HH := Lib.hid (show first + count ≤ 4096 by omega)
  have HR0 := Lib.hid hr0
  have HTT := Lib.hid ht
  obtain ⟨r, hr⟩ : ∃ r, r = w.heap.size := ⟨_, rfl⟩
  have HRR := Lib.hid hr
  have L1 := Lib.hid (show r < w1.heap.size by rw [hr, hw1]; simp)
  clear h hw1 hb1 ht hr0 hsc hr
  go_enter Try.func17, Try.ntmps17
  go_wp2_with (first
    | (go_at_call 47; refine SC.out.mono ?_; rintro e w' ⟨rfl, rfl⟩)
    | (go_at_call 48; rw [← HW.out]; refine RS.out.mono ?_; rintro e w2 ⟨rfl, m2, rfl⟩)
    | (go_at_call 34; refine (read_any (HD1.out.drewN m2) (sc : Int) (WalkArith.wf_i64 (by omega))).mono ?_; rintro e w3 ⟨v, rfl, ha, hb3⟩; rw [HR0.out]; unfold Ans at ha; rw [if_pos HR0.out] at ha; obtain ⟨k, rfl, hk3, hr3, hl3⟩ := ha; have B3 := Lib.hid (B1.out.trans (((Below.refl w1.heap.size w1).trans (below_drewN (Below.refl _ _) m2)).trans hb3 |>.mono B1.out.size)); have hq3 := (hb3.block w.heap.size (by have := L1.out; rw [← HRR.out]; exact this)).trans HB1.out; have HK := Lib.hid (keep_pre hq3 hr3 hl3 (by have := L1.out; have h2 : w1.heap.size ≤ k := hk3; rw [← HRR.out]; omega) hc HH.out HTT.out); have KL := Lib.hid (show w.heap.size ≤ k from by have := B1.out.size; have h2 : w1.heap.size ≤ k := hk3; omega); clear hb3 hr3 hl3 hk3 hq3)
    | (go_at_call 49; refine HK.out.mono ?_; rintro e w4 ⟨rfl, hR4, hF4⟩))
  go_ret2
  exact ⟨_, k, rfl, hR4, B3.out.trans (hF4.below (fun i _ h => by rw [h]; exact Nat.le_refl _) B3.out.size), Nat.le_refl _, KL.out⟩
end Go.Proofs.Ytllnaocnojhlkaa.Dk
