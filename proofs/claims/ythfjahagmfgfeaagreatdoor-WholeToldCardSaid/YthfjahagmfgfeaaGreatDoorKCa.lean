/- The calendar of package cron: leap years, the lengths of years and months, the year and the month of a day. -/
import Derived.Test.YthfjahagmfgfeaaGreatDoorKCz
import Derived.WalkKit
import Derived.WalkLawsBesides
import Derived.WalkSpells
import Derived.Handy
import Derived.Lib.Hide
import Derived.Outline
import Derived.Deep.QuietTactic
import Derived.BigQuiet
import Derived.Deep.RegionWith
namespace Go.Proofs.YthfjahagmfgfeaaGreatDoor.Cr
open Go Go.RowKit
set_option linter.unusedVariables false
set_option linter.unusedSimpArgs false
/-- Is a year a leap year? -/
def leap (y : Nat) : Bool := (y % 4 == 0 && !(y % 100 == 0)) || y % 400 == 0
def ylen (y : Nat) : Nat := if leap y = true then 366 else 365
def feb (y : Nat) : Nat := if leap y = true then 29 else 28
def mlens (y : Nat) : List Nat := [31, feb y, 31, 30, 31, 30, 31, 31, 30, 31, 30, 31]
def mons0 : List Nat := [31, 28, 31, 30, 31, 30, 31, 31, 30, 31, 30, 31]
theorem leap_any (y : Nat) (hy : y < 4611686018427387904) (w : World) : Calls Tryz.prog 133 #[.int .i64 (y : Int)] w fun e w' => e = .returned (.bool (leap y)) ∧ w' = w := by
  have hb : ∀ (k : Nat), (((y : Int) % (k : Int) == 0) = (y % k == 0)) := fun k => by
    rw [← Int.natCast_emod, Bool.eq_iff_iff, beq_iff_eq, beq_iff_eq]; omega
  have h4 := hb 4
  have h100 := hb 100
  have h400 := hb 400
  have HB := Lib.hid (show ((y : Int) % 4 == 0) = (y % 4 == 0) ∧ ((y : Int) % 100 == 0) = (y % 100 == 0) ∧ ((y : Int) % 400 == 0) = (y % 400 == 0) from ⟨h4, h100, h400⟩)
  clear hb h4 h100 h400
  go_enter Tryz.func133, Tryz.ntmps133
  go_wp2
  · have h1 : (y % 4 == 0) = true := by rw [beq_iff_eq]; omega
    have h2 : (y % 100 == 0) = true := by rw [beq_iff_eq]; omega
    go_ret
    refine ⟨?_, rfl⟩
    rw [HB.out.2.2]; simp [leap, h1, h2]
  · have h1 : (y % 4 == 0) = true := by rw [beq_iff_eq]; omega
    have h2 : (y % 100 == 0) = false := by rw [beq_eq_false_iff_ne]; omega
    go_ret
    refine ⟨?_, rfl⟩
    simp [leap, h1, h2]
  · have h1 : (y % 4 == 0) = false := by rw [beq_eq_false_iff_ne]; omega
    go_ret
    refine ⟨?_, rfl⟩
    rw [HB.out.2.2]; simp [leap, h1]
theorem ylen_any (y : Nat) (hy : y < 4611686018427387904) (w : World) : Calls Tryz.prog 116 #[.int .i64 (y : Int)] w fun e w' => e = .returned (.int .i64 (ylen y : Int)) ∧ w' = w := by
  go_enter Tryz.func116, Tryz.ntmps116
  go_wp2_with (go_at_call 133; refine (leap_any y hy _).mono ?_; rintro e w' ⟨rfl, rfl⟩)
  all_goals (go_ret; refine ⟨?_, rfl⟩; simp_all [ylen])
theorem ylen_pos (y : Nat) : 365 ≤ ylen y ∧ ylen y ≤ 366 := by unfold ylen; split <;> omega
/-- What package cron's tables hold. -/
structure CT (w : World) : Prop where
  reach : ∀ j v, ([0, 59, 0, 23, 1, 31, 1, 12, 0, 6] : List Int)[j]? = some v → w.cell? ⟨0, j, none⟩ = some (.int .i64 v)
  mons : ∀ j, j < 12 → w.cell? ⟨2, j, none⟩ = some (.int .i64 ((mons0.getD j 0 : Nat) : Int))
  len : ∃ m, w.cell? ⟨1, 0, none⟩ = some (.int .i64 m)
theorem CT.below {w w' : World} {B : Nat} (h : CT w) (hb : Below B w w') (hB : w.heap.size ≤ B) : CT w' := by
  refine ⟨fun j v hj => ?_, fun j hj => ?_, ?_⟩
  · have := h.reach j v hj
    rw [hb.cell (Nat.lt_of_lt_of_le (World.block_lt_of_cell? w _ this) hB)]; exact this
  · have := h.mons j hj
    rw [hb.cell (Nat.lt_of_lt_of_le (World.block_lt_of_cell? w _ this) hB)]; exact this
  · obtain ⟨m, this⟩ := h.len
    exact ⟨m, by rw [hb.cell (Nat.lt_of_lt_of_le (World.block_lt_of_cell? w _ this) hB)]; exact this⟩
theorem mlens_get (y m : Nat) (h1 : 1 ≤ m) (h2 : m ≤ 12) : (mlens y).getD (m - 1) 0 = if m = 2 ∧ leap y = true then 29 else mons0.getD (m - 1) 0 := by
  obtain rfl | rfl | rfl | rfl | rfl | rfl | rfl | rfl | rfl | rfl | rfl | rfl : m = 1 ∨ m = 2 ∨ m = 3 ∨ m = 4 ∨ m = 5 ∨ m = 6 ∨ m = 7 ∨ m = 8 ∨ m = 9 ∨ m = 10 ∨ m = 11 ∨ m = 12 := by omega
  all_goals simp [mlens, mons0, List.getD, feb]
theorem mlen_any (y m : Nat) (hy : y < 4611686018427387904) (h1 : 1 ≤ m) (h2 : m ≤ 12) (w : World) (hT : CT w) : Calls Tryz.prog 117 #[.int .i64 (y : Int), .int .i64 (m : Int)] w fun e w' => e = .returned (.int .i64 (((mlens y).getD (m - 1) 0 : Nat) : Int)) ∧ w' = w := by
  have hc := hT.mons (m - 1) (by omega)
  have h11 := hT.mons 1 (by decide)
  rw [show ((mons0.getD 1 0 : Nat) : Int) = 28 from rfl] at h11
  have hm := mlens_get y m h1 h2
  generalize (mlens y).getD (m - 1) 0 = R at hm
  obtain ⟨V, hV⟩ : ∃ V, V = mons0.getD (m - 1) 0 := ⟨_, rfl⟩
  rw [← hV] at hc hm
  clear hT hV
  by_cases hm2 : m = 2
  · subst hm2
    have hL := leap_any y hy w
    cases hl : leap y
    · rw [hl] at hL hm
      rw [if_neg (by decide)] at hm
      have hv : V = 28 := by rw [hc] at h11; injection h11 with h; injection h with h1 h2; omega
      subst hv
      subst hm
      clear hc
      go_enter Tryz.func117, Tryz.ntmps117
      go_wp2_with (go_at_call 133; refine hL.mono ?_; rintro e w' ⟨rfl, rfl⟩)
      go_ret
      exact ⟨rfl, rfl⟩
    · rw [hl] at hL hm
      rw [if_pos (by decide)] at hm
      subst hm
      clear hc h11
      go_enter Tryz.func117, Tryz.ntmps117
      go_wp2_with (go_at_call 133; refine hL.mono ?_; rintro e w' ⟨rfl, rfl⟩)
      go_ret
      exact ⟨rfl, rfl⟩
  · rw [if_neg (fun h => hm2 h.1)] at hm
    subst hm
    clear h11
    go_enter Tryz.func117, Tryz.ntmps117
    go_wp2
    go_ret
    exact ⟨rfl, rfl⟩
/-- The year of a day, counted from 0, and which of the year's days it is. -/
def yrOf (y r : Nat) : Nat × Nat := if h : r < ylen y then (y, r) else yrOf (y + 1) (r - ylen y)
termination_by r
decreasing_by have := ylen_pos y; omega
theorem yrOf_stop {y r : Nat} (h : r < ylen y) : yrOf y r = (y, r) := by rw [yrOf, dif_pos h]
theorem yrOf_go {y r : Nat} (h : ¬ r < ylen y) : yrOf y r = yrOf (y + 1) (r - ylen y) := by rw [yrOf, dif_neg h]
def yrRel (Y R y0 r0 : Nat) (y r : Value) : Prop := ∃ a b : Nat, y = .int .i64 (a : Int) ∧ r = .int .i64 (b : Int) ∧ yrOf a b = (Y, R) ∧ a + b ≤ y0 + r0
theorem yearOf_any (d : Nat) (hd : d < 4294967296) (w : World) : Calls Tryz.prog 95 #[.int .i64 (d : Int)] w fun e w' =>
    e = .returned (.tuple #[.int .i64 ((yrOf (2000 + d / 146097 * 400) (d % 146097)).1 : Int), .int .i64 ((yrOf (2000 + d / 146097 * 400) (d % 146097)).2 : Int)]) ∧ w' = w := by
  obtain ⟨Y, R, hYR⟩ : ∃ Y R, (Y, R) = yrOf (2000 + d / 146097 * 400) (d % 146097) := ⟨_, _, rfl⟩
  rw [← hYR]
  obtain ⟨y0, hy0⟩ : ∃ y0, y0 = 2000 + d / 146097 * 400 := ⟨_, rfl⟩
  obtain ⟨r0, hr0⟩ : ∃ r0, r0 = d % 146097 := ⟨_, rfl⟩
  rw [← hy0, ← hr0] at hYR
  have e1 : (2000 : Int) + (d : Int) / 146097 * 400 = (y0 : Int) := by omega
  have e2 : (d : Int) % 146097 = (r0 : Int) := by omega
  have hY := Lib.hid hYR
  have hb : y0 + r0 ≤ 100000000 := by omega
  have HB := Lib.hid hb
  have E1 := Lib.hid e1
  have E2 := Lib.hid e2
  clear hYR hy0 hr0 hb e1 e2
  go_enter Tryz.func95, Tryz.ntmps95
  go_wp2
  rw [E1.out, E2.out]
  go_loop [2, 3] (fun y r => yrRel Y R y0 r0 y r) (fun _ r => (intOf r).toNat)
  case atStart => exact ⟨y0, r0, rfl, rfl, hY.out.symm, Nat.le_refl _⟩
  case round =>
    obtain ⟨a, b, rfl, rfl, hab, hle⟩ := hrel
    have ha : a < 4611686018427387904 := by have := HB.out; omega
    have hL := ylen_any a ha w
    have hp := ylen_pos a
    obtain ⟨l, hl⟩ : ∃ l, l = ylen a := ⟨_, rfl⟩
    rw [← hl] at hL hp
    have hAB := Lib.hid hab
    have HL := Lib.hid hl
    have HLE := Lib.hid hle
    have hb2 : b ≤ 100000000 := by have := HB.out; omega
    clear hab hl hle
    by_cases hlt : b < l
    · have h1 : ¬ (l : Int) ≤ (b : Int) := by omega
      have he := hAB.out
      rw [yrOf_stop (by rw [← HL.out]; exact hlt)] at he
      injection he with h3 h4
      subst h3 h4
      go_wp2_with (go_at_call 116; refine hL.mono ?_; rintro e w' ⟨rfl, rfl⟩)
      go_ret2
      exact ⟨rfl, rfl⟩
    · have h1 : (l : Int) ≤ (b : Int) := by omega
      have HR := Lib.hid (show yrRel Y R y0 r0 (.int .i64 ((a + 1 : Nat) : Int)) (.int .i64 ((b - l : Nat) : Int)) from ⟨a + 1, b - l, rfl, rfl, by have := hAB.out; rw [yrOf_go (by rw [← HL.out]; exact hlt), ← HL.out] at this; exact this, by have := HLE.out; omega⟩)
      have e3 : (b : Int) - (l : Int) = ((b - l : Nat) : Int) := by omega
      have hM := Lib.hid (show b - l < b by omega)
      obtain ⟨c, hc⟩ : ∃ c, c = b - l := ⟨_, rfl⟩
      rw [← hc] at HR e3 hM
      clear hc hlt
      go_wp2_with (go_at_call 116; refine hL.mono ?_; rintro e w' ⟨rfl, rfl⟩)
      exact ⟨HR.out, by have := hM.out; simp [intOf]; omega⟩
/-- The month of a year's day, counted from 0, and which of the month's days it is. -/
def mon : List Nat → Nat → Nat → Nat × Nat
  | [], m, r => (m, r)
  | x :: xs, m, r => if r < x then (m, r) else mon xs (m + 1) (r - x)
def moRel (y M R : Nat) (m r : Value) : Prop := ∃ k b : Nat, m = .int .i64 ((k + 1 : Nat) : Int) ∧ r = .int .i64 (b : Int) ∧ k < 12 ∧ mon ((mlens y).drop k) (k + 1) b = (M, R) ∧ b < ((mlens y).drop k).sum
theorem mlens_drop (y k : Nat) (hk : k < 12) : (mlens y).drop k = (mlens y).getD k 0 :: (mlens y).drop (k + 1) := by
  have hl : k < (mlens y).length := hk
  rw [List.drop_eq_getElem_cons hl]
  simp [List.getD, hl]
theorem mlens_bd (y k : Nat) (hk : k < 12) : 28 ≤ (mlens y).getD k 0 ∧ (mlens y).getD k 0 ≤ 31 := by
  have hf : 28 ≤ feb y ∧ feb y ≤ 29 := by unfold feb; split <;> omega
  obtain rfl | rfl | rfl | rfl | rfl | rfl | rfl | rfl | rfl | rfl | rfl | rfl : k = 0 ∨ k = 1 ∨ k = 2 ∨ k = 3 ∨ k = 4 ∨ k = 5 ∨ k = 6 ∨ k = 7 ∨ k = 8 ∨ k = 9 ∨ k = 10 ∨ k = 11 := by omega
  all_goals (simp [mlens, List.getD]; try omega)
theorem mlens_sum (y : Nat) : (mlens y).sum = ylen y := by
  unfold mlens ylen feb
  cases leap y <;> rfl
theorem monthOf_any (y d : Nat) (hy : y < 4611686018427387904) (hd : d < ylen y) (w : World) (hT : CT w) : Calls Tryz.prog 96 #[.int .i64 (y : Int), .int .i64 (d : Int)] w fun e w' =>
    e = .returned (.tuple #[.int .i64 ((mon (mlens y) 1 d).1 : Int), .int .i64 ((mon (mlens y) 1 d).2 : Int)]) ∧ w' = w := by
  obtain ⟨M, R, hMR⟩ : ∃ M R, (M, R) = mon (mlens y) 1 d := ⟨_, _, rfl⟩
  rw [← hMR]
  have HMR := Lib.hid hMR
  have HD := Lib.hid hd
  clear hMR hd
  go_enter Tryz.func96, Tryz.ntmps96
  go_wp2
  go_loop [4, 5] (fun m r => moRel y M R m r) (fun _ r => (intOf r).toNat)
  case atStart => exact ⟨0, d, rfl, rfl, by decide, HMR.out.symm, by have := HD.out; rw [List.drop_zero, mlens_sum]; exact this⟩
  case round =>
    obtain ⟨k, b, rfl, rfl, hk, hab, hle⟩ := hrel
    have hL := mlen_any y (k + 1) hy (by omega) (by omega) w hT
    rw [Nat.add_sub_cancel] at hL
    have hp := mlens_bd y k hk
    rw [mlens_drop y k hk] at hab hle
    obtain ⟨l, hl⟩ : ∃ l, l = (mlens y).getD k 0 := ⟨_, rfl⟩
    rw [← hl] at hL hp hab hle
    rw [List.sum_cons] at hle
    rw [mon] at hab
    have hb2 : b ≤ 100000 := by
      have h1 : ((mlens y).drop (k + 1)).sum ≤ 366 := by
        have h2 := List.take_append_drop (k + 1) (mlens y)
        have h3 := congrArg List.sum h2
        rw [List.sum_append, mlens_sum] at h3
        have := ylen_pos y
        omega
      omega
    have hAB := Lib.hid hab
    have HLE := Lib.hid hle
    have hcast : ((k + 1 : Nat) : Int) = (k : Int) + 1 := by omega
    clear hab hl hle
    by_cases hlt : b < l
    · have h1 : ¬ (l : Int) ≤ (b : Int) := by omega
      have he := hAB.out
      rw [if_pos hlt] at he
      injection he with h3 h4
      subst h3 h4
      go_wp2_with (go_at_call 117; refine hL.mono ?_; rintro e w' ⟨rfl, rfl⟩)
      go_ret2
      exact ⟨rfl, rfl⟩
    · have h1 : (l : Int) ≤ (b : Int) := by omega
      have hk2 : k + 1 < 12 := by
        have h2 := HLE.out
        by_cases h3 : k + 1 < 12
        · exact h3
        · obtain rfl : k = 11 := by omega
          have h4 : ((mlens y).drop (11 + 1)).sum = 0 := rfl
          omega
      have HR := Lib.hid (show moRel y M R (.int .i64 ((k + 1 + 1 : Nat) : Int)) (.int .i64 ((b - l : Nat) : Int)) from ⟨k + 1, b - l, rfl, rfl, hk2, by have := hAB.out; rw [if_neg hlt] at this; exact this, by have := HLE.out; omega⟩)
      have e3 : (b : Int) - (l : Int) = ((b - l : Nat) : Int) := by omega
      have hM := Lib.hid (show b - l < b by omega)
      obtain ⟨c, hc⟩ : ∃ c, c = b - l := ⟨_, rfl⟩
      rw [← hc] at HR e3 hM
      clear hc hlt
      go_wp2_with (go_at_call 117; refine hL.mono ?_; rintro e w' ⟨rfl, rfl⟩)
      exact ⟨HR.out, by have := hM.out; simp [intOf]; omega⟩
/-- A date. -/
structure DateD where
  y : Nat
  m : Nat
  d : Nat
  h : Nat
  mi : Nat
  w : Nat
deriving DecidableEq
def DateD.cells (D : DateD) : Array Value := #[.int .i64 (D.y : Int), .int .i64 (D.m : Int), .int .i64 (D.d : Int), .int .i64 (D.h : Int), .int .i64 (D.mi : Int), .int .i64 (D.w : Int)]
/-- The date of a minute. -/
def dateN (t : Nat) : DateD :=
  let Y := yrOf (2000 + t / 1440 / 146097 * 400) (t / 1440 % 146097)
  let M := mon (mlens Y.1) 1 Y.2
  ⟨Y.1, M.1, M.2 + 1, t % 1440 / 60, t % 1440 % 60, (6 + t / 1440) % 7⟩
theorem yrOf_lt (y r : Nat) : (yrOf y r).2 < ylen (yrOf y r).1 ∧ (yrOf y r).1 ≤ y + r := by
  induction r using Nat.strongRecOn generalizing y with
  | _ r ih =>
    by_cases h : r < ylen y
    · rw [yrOf_stop h]; exact ⟨h, Nat.le_add_right _ _⟩
    · rw [yrOf_go h]
      have hp := ylen_pos y
      have := ih (r - ylen y) (by omega) (y + 1)
      exact ⟨this.1, by omega⟩
theorem mon_bd : ∀ (L : List Nat) (m r : Nat), (mon L m r).2 ≤ r ∧ (mon L m r).1 ≤ m + L.length
  | [], m, r => ⟨Nat.le_refl _, Nat.le_refl _⟩
  | x :: xs, m, r => by
    rw [mon]
    split
    · exact ⟨Nat.le_refl _, by simp⟩
    · have := mon_bd xs (m + 1) (r - x)
      exact ⟨by omega, by simp only [List.length_cons]; omega⟩
theorem date_any (t : Nat) (ht : t < 4611686018427387904) (ht2 : t / 1440 < 4294967296) (w : World) (hT : CT w) : Calls Tryz.prog 68 #[.int .i64 (t : Int)] w fun e w' => e = .returned (.agg (dateN t).cells) ∧ Below w.heap.size w w' := by
  obtain ⟨Y, hY⟩ : ∃ Y, Y = yrOf (2000 + t / 1440 / 146097 * 400) (t / 1440 % 146097) := ⟨_, rfl⟩
  obtain ⟨M, hM⟩ : ∃ M, M = mon (mlens Y.1) 1 Y.2 := ⟨_, rfl⟩
  have hD : dateN t = ⟨Y.1, M.1, M.2 + 1, t % 1440 / 60, t % 1440 % 60, (6 + t / 1440) % 7⟩ := by rw [hM, hY]; rfl
  rw [hD]
  have e1 : (t : Int) / 1440 = ((t / 1440 : Nat) : Int) := by omega
  have e2 : (t : Int) % 1440 = ((t % 1440 : Nat) : Int) := by omega
  have hq : t % 1440 < 1440 := Nat.mod_lt _ (by decide)
  obtain ⟨T, hT1⟩ : ∃ T, T = t / 1440 := ⟨_, rfl⟩
  obtain ⟨q, hq1⟩ : ∃ q, q = t % 1440 := ⟨_, rfl⟩
  rw [← hT1] at hY ht2 e1 ⊢
  rw [← hq1] at e2 hq ⊢
  have hy1 := yrOf_lt (2000 + T / 146097 * 400) (T % 146097)
  have hY0 := Lib.hid hy1
  have yc := fun W => yearOf_any T ht2 W
  rw [← hY] at hy1
  simp only [← hY] at yc
  have hYb : Y.1 < 100000000 := by omega
  have mc := fun W h => monthOf_any Y.1 Y.2 (by omega) hy1.1 W h
  simp only [← hM] at mc
  have hmb := mon_bd (mlens Y.1) 1 Y.2
  rw [← hM] at hmb
  have hp := ylen_pos Y.1
  obtain ⟨y, r⟩ := Y
  obtain ⟨m, r2⟩ := M
  dsimp only at *
  have hr2 : r2 < 366 := by omega
  have YC := Lib.hid yc
  have MC := Lib.hid mc
  have HT := Lib.hid hT
  have HE := Lib.hid e1
  have HE2 := Lib.hid e2
  obtain ⟨g, hg⟩ : ∃ g, g = w.heap.size := ⟨_, rfl⟩
  obtain ⟨w2, hw2⟩ : ∃ w2, w2 = w.alloc (.cells #[.int .i64 0, .int .i64 0, .int .i64 0, .int .i64 0, .int .i64 0, .int .i64 0] 102) := ⟨_, rfl⟩
  have hb2 : Below w.heap.size w w2 := by rw [hw2]; exact (Below.refl _ _).alloc (Nat.le_refl _) _
  have n2 : w2.heap[g]? = some (.cells #[.int .i64 0, .int .i64 0, .int .i64 0, .int .i64 0, .int .i64 0, .int .i64 0] 102 (0, 0)) := by rw [hw2, hg]; exact heap_alloc_new _ _
  have HB2 := Lib.hid hb2
  have N2 := Lib.hid n2
  have HW2 := Lib.hid hw2
  have HG := Lib.hid hg
  have mc2 := MC.out w2 (HT.out.below hb2 (Nat.le_refl _))
  have yc2 := YC.out w2
  clear hY hM hD hy1 yc mc hmb hp hT e1 e2 hT1 hq1 hb2 n2 hw2 hg hYb hY0
  go_enter Tryz.func68, Tryz.ntmps68
  go_upto_region 1 with fail
  rw [← HW2.out, ← HG.out]
  have e1 := HE.out
  have e2 := HE2.out
  have SZ := Lib.hid (show (Tryz.prog.info? 102).map (·.size) = some (#[.int .i64 (y : Int), .int .i64 (m : Int), .int .i64 ((r2 : Int) + 1), .int .i64 ((q : Int) / 60), .int .i64 ((q : Int) % 60), .int .i64 ((6 + (T : Int)) % 7)] : Array Value).size by kernel_rfl)
  go_wp2_with (first
    | (go_at_call 95; refine (YC.out _).mono ?_; rintro e w' ⟨rfl, rfl⟩)
    | (go_at_call 96; refine (MC.out _ (HT.out.below HB2.out (Nat.le_refl _))).mono ?_; rintro e w' ⟨rfl, rfl⟩)
    | (with_reducible show wpList _ _ _ _ _ _; refine wpList_store_whole rfl 102 (.tmp 2) (.tmp 34) rfl g 102 _ #[.int .i64 (y : Int), .int .i64 (m : Int), .int .i64 ((r2 : Int) + 1), .int .i64 ((q : Int) / 60), .int .i64 ((q : Int) % 60), .int .i64 ((6 + (T : Int)) % 7)] rfl rfl N2.out SZ.out rfl (by kernel_rfl) ?_))
  refine bodyPost_ret (results_cell_row rfl _ _ g 102 #[.int .i64 (y : Int), .int .i64 (m : Int), .int .i64 ((r2 : Int) + 1), .int .i64 ((q : Int) / 60), .int .i64 ((q : Int) % 60), .int .i64 ((6 + (T : Int)) % 7)] (0, 0) _ rfl (setRow_heap _ g _ _ _ _ N2.out) Tryz.underlying102 rfl SZ.out) rfl ?_
  refine ⟨?_, below_setRow HB2.out (Nat.le_of_eq HG.out.symm) _⟩
  simp only [DateD.cells]
  have h1 : ((r2 + 1 : Nat) : Int) = (r2 : Int) + 1 := by omega
  have h2 : ((q / 60 : Nat) : Int) = (q : Int) / 60 := by omega
  have h3 : ((q % 60 : Nat) : Int) = (q : Int) % 60 := by omega
  have h4 : (((6 + T) % 7 : Nat) : Int) = (6 + (T : Int)) % 7 := by omega
  rw [h1, h2, h3, h4]
end Go.Proofs.YthfjahagmfgfeaaGreatDoor.Cr
