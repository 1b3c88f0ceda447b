/- The law RingOpens: its walk. -/
import Derived.Test.YtecjhhljjddcmabUg
namespace Go.Proofs.Ytecjhhljjddcmab.Dk
open Go Go.RowKit
set_option linter.unusedVariables false
set_option linter.unusedSimpArgs false

theorem new_read (n : Nat) (i : Int) (h : (DS.new n).has i = true) : ((DS.new n).read i).2 = 0 := by
  simp [DS.read, DS.new, DS.sure, DS.has] at h ⊢
  rw [if_neg (by omega)]
set_option maxRecDepth 100000 in
set_option maxHeartbeats 4000000 in
theorem opens_any (w : World) (sectors a0 a1 tail : Int) (hs : wfi sectors) (h0 : wfi a0) (h1 : wfi a1) (ht0 : 0 ≤ tail) (ht1 : tail < 18446744073709551616) :
    Calls Try.prog 4 #[.int .i64 sectors, .agg #[.int .i64 a0, .int .i64 a1], .int .u64 tail] w fun e w' => e = .returned (.bool true) ∧ Below w.heap.size w w' := by
  have b0 := bounds_i64 hs
  have r0 := heap_alloc_new w (.cells #[.int .i64 a0, .int .i64 a1] 43 (0, 0))
  have fa : Below w.heap.size w (w.alloc (.cells #[.int .i64 a0, .int .i64 a1] 43 (0, 0))) := (Below.refl _ _).alloc (Nat.le_refl _) _
  have GO := Lib.hid (goes_any (w.alloc (.cells #[.int .i64 a0, .int .i64 a1] 43 (0, 0))))
  have hsz : (w.alloc (.cells #[.int .i64 a0, .int .i64 a1] 43 (0, 0))).heap.size = w.heap.size + 1 := Array.size_push _
  obtain ⟨g0, hg0⟩ : ∃ g0, g0 = w.heap.size := ⟨_, rfl⟩
  go_enter Try.func4, Try.ntmps4
  rw [← hg0]
  obtain ⟨wa, hwa⟩ : ∃ wa, wa = w.alloc (.cells #[.int .i64 a0, .int .i64 a1] 43 (0, 0)) := ⟨_, rfl⟩
  rw [← hg0, ← hwa] at r0
  rw [← hwa] at fa GO hsz
  go_wp2_with fail
  rw [← hwa, ← hg0]
  refine GO.out.mono ?_
  rintro e w1 ⟨rfl, hb1⟩
  have HR1 := Lib.hid ((hb1.block g0 (by omega)).trans r0)
  have HB1 := Lib.hid (show Below g0 w w1 by rw [hg0]; exact fa.trans (hb1.mono (by omega)))
  have HG := Lib.hid hg0
  have HS := Lib.hid hb1.size
  have hg1 : g0 < w1.heap.size := by have := hb1.size; omega
  clear GO hb1 hwa hsz r0 fa hg0
  by_cases c1 : sectors < 1
  · go_wp2_with fail
    go_ret
    exact ⟨rfl, HB1.out⟩
  by_cases c2 : 20 < sectors
  · go_wp2_with fail
    go_ret
    exact ⟨rfl, HB1.out⟩
  obtain ⟨n, rfl⟩ : ∃ n : Nat, sectors = (n : Int) := ⟨sectors.toNat, by omega⟩
  have NW := Lib.hid (new_any n (by omega) (by omega) w1)
  go_wp2_with fail
  refine NW.out.mono ?_
  rintro e w2 ⟨d, g, m, rfl, hD2, hb2, hd, hg, hm⟩
  have HR2 := Lib.hid ((hb2.block g0 hg1).trans HR1.out)
  have HD2 := Lib.hid hD2
  have HB2 := Lib.hid (HB1.out.trans (hb2.mono (by omega)))
  have hg2 : g0 < w2.heap.size := by have := hb2.size; omega
  clear NW hD2 hb2
  go_wp2_with fail
  have hc0 : w2.drew.cell? ⟨g0, 0, none⟩ = some (.int .i64 a0) := (cell_of_row w2.drew g0 0 _ _ _ HR2.out).trans rfl
  have hc1 : w2.drew.cell? ⟨g0, 1, none⟩ = some (.int .i64 a1) := (cell_of_row w2.drew g0 1 _ _ _ HR2.out).trans rfl
  go_region
  have f3 : Frm (fun _ => False) w2 w2.drew := (Frm.refl _ w2).drew
  have hD3 := HD2.out.frame f3 id id id
  have hB3 : Below g0 w w2.drew := ⟨HB2.out.os, HB2.out.tape, HB2.out.output, HB2.out.size, HB2.out.block⟩
  clear hc0 hc1 f3
  obtain ⟨w3, hw3⟩ : ∃ w3, w3 = w2.drew := ⟨_, rfl⟩
  rw [← hw3] at hD3 hB3 ⊢
  have hl3 : (DS.new n).s.length = n := by simp [DS.new]
  have HB3 := Lib.hid hB3
  have hg3 : g0 ≤ w3.heap.size := by rw [hw3]; exact Nat.le_of_lt hg2
  clear hw3 hB3
  have q0 := bounds_i64 h0
  have q1 := bounds_i64 h1
  by_cases k0 : a0 < 0
  · have OB := Lib.hid (open_bad hD3 a0 a1 h0 h1 tail (.inl k0))
    clear hD3 hl3
    go_wp2_with fail
    refine OB.out.mono ?_
    rintro e w' ⟨rfl, rfl⟩
    go_wp2_with fail
    go_ret
    exact ⟨rfl, HB3.out⟩
  by_cases k1 : a1 < 1
  · have OB := Lib.hid (open_bad hD3 a0 a1 h0 h1 tail (.inr (.inl k1)))
    clear hD3 hl3
    go_wp2_with fail
    refine OB.out.mono ?_
    rintro e w' ⟨rfl, rfl⟩
    go_wp2_with fail
    go_ret
    exact ⟨rfl, HB3.out⟩
  by_cases k2 : (n : Int) < a1
  · have OB := Lib.hid (open_bad hD3 a0 a1 h0 h1 tail (.inr (.inr (by rw [hl3]; omega))))
    clear hD3 hl3
    go_wp2_with fail
    refine OB.out.mono ?_
    rintro e w' ⟨rfl, rfl⟩
    go_wp2_with fail
    go_ret
    exact ⟨rfl, HB3.out⟩
  have hwr : wrap64 ((n : Int) - a1) = (n : Int) - a1 := by unfold wrap64; omega
  by_cases k3 : (n : Int) - a1 < a0
  · have OB := Lib.hid (open_bad hD3 a0 a1 h0 h1 tail (.inr (.inr (by rw [hl3]; omega))))
    clear hD3 hl3
    go_wp2_with fail
    refine OB.out.mono ?_
    rintro e w' ⟨rfl, rfl⟩
    go_wp2_with fail
    go_ret
    exact ⟨rfl, HB3.out⟩
  obtain ⟨first, rfl⟩ : ∃ k : Nat, a0 = (k : Int) := ⟨a0.toNat, by omega⟩
  obtain ⟨count, rfl⟩ : ∃ k : Nat, a1 = (k : Int) := ⟨a1.toNat, by omega⟩
  obtain ⟨tl, rfl⟩ : ∃ k : Nat, tail = (k : Int) := ⟨tail.toNat, by omega⟩
  have OG := Lib.hid (open_good hD3 first count tl (by omega) (by rw [hl3]; omega) (by omega) (new_read _ _ (by
    have hm : tl / 128 % count < count := Nat.mod_lt _ (by omega)
    have hlt : sec first count tl < n := by
      unfold sec
      generalize tl / 128 % count = q at *
      omega
    simp [DS.has, hl3]
    omega)))
  have hcw : wrap64 (128 * (count : Int)) = 128 * (count : Int) := by unfold wrap64; omega
  clear hD3 hl3 ht0 ht1 q0 q1 b0 h0 h1 hs
  go_wp2_with fail
  refine OG.out.mono ?_
  rintro e w4 ⟨r, k, rfl, hR, hb4, hr, hk⟩
  have TA := Lib.hid (tail_any hR)
  have SZ := Lib.hid (size_any hR)
  have HB4 := Lib.hid (HB3.out.trans (hb4.mono hg3))
  clear OG hR hb4
  go_wp2_with fail
  refine TA.out.mono ?_
  rintro e w' ⟨rfl, rfl⟩
  go_wp2_with fail
  refine SZ.out.mono ?_
  rintro e w' ⟨rfl, rfl⟩
  rw [show ((count * 128 : Nat) : Int) = 128 * (count : Int) by omega]
  go_wp2_with fail
  go_ret
  exact ⟨rfl, HB4.out⟩
end Go.Proofs.Ytecjhhljjddcmab.Dk
