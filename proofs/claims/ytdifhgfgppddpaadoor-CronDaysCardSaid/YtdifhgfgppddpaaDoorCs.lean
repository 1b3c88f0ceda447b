/- CronDays' walk. -/
import Derived.Test.YtdifhgfgppddpaaDoorCm
import Derived.Test.YtdifhgfgppddpaaDoorCr
import Derived.Test.YtdifhgfgppddpaaDoorCt
namespace Go.Proofs.YtdifhgfgppddpaaDoor
open Go Go.RowKit
set_option linter.unusedVariables false
set_option linter.unusedSimpArgs false
set_option maxRecDepth 100000 in
set_option maxHeartbeats 8000000 in
theorem cronDays_any (t : Int) (ht : -9223372036854775808 ≤ t ∧ t ≤ 9223372036854775807) (w : World) (hT : CT w) : Calls Tryd.prog 7 #[.int .i64 t] w fun e w' => e = .returned (.bool true) ∧ Below w.heap.size w w' := by
  have FA := Lib.hid (finds_any w hT)
  have HT := Lib.hid hT
  clear hT
  by_cases hbad : t < 0 ∨ 2147483648 < t
  · go_enter Tryd.func7, Tryd.ntmps7
    go_wp2_with fail
    refine FA.out.mono ?_
    rintro e w1 ⟨rfl, hb1⟩
    have HB1 := Lib.hid hb1
    clear hb1
    rcases hbad with h | h
    · go_wp2_with fail
      go_ret
      exact ⟨rfl, HB1.out⟩
    · have h0 : ¬ t < 0 := by omega
      go_wp2_with fail
      go_ret
      exact ⟨rfl, HB1.out⟩
  obtain ⟨n, rfl⟩ : ∃ n : Nat, t = (n : Int) := ⟨t.toNat, by omega⟩
  have h0 : ¬ (n : Int) < 0 := by omega
  have h1 : ¬ (2147483648 : Int) < (n : Int) := by omega
  have D0 := Lib.hid (fun W (h : CT W) => show Calls Tryd.prog 13 #[.int .i64 (n : Int)] W fun e w' => e = .returned (.tuple #[.agg (dateN n).list.toArray, .int .i64 0]) ∧ Below W.heap.size W w' from by
    have hc := dateOf_any (n : Int) (by omega) W h
    rw [show dateL (n : Int) = (dateN n).list by unfold dateL; rw [if_neg (by omega), Int.toNat_natCast], show dateE (n : Int) = 0 by unfold dateE; rw [if_neg (by omega)]] at hc
    exact hc)
  have D1 := Lib.hid (fun W (h : CT W) => show Calls Tryd.prog 13 #[.int .i64 ((n : Int) + 1440)] W fun e w' => e = .returned (.tuple #[.agg (dateN (n + 1440)).list.toArray, .int .i64 0]) ∧ Below W.heap.size W w' from by
    have hc := dateOf_any ((n + 1440 : Nat) : Int) (by omega) W h
    rw [show dateL ((n + 1440 : Nat) : Int) = (dateN (n + 1440)).list by unfold dateL; rw [if_neg (by omega), Int.toNat_natCast], show dateE ((n + 1440 : Nat) : Int) = 0 by unfold dateE; rw [if_neg (by omega)], show ((n + 1440 : Nat) : Int) = (n : Int) + 1440 by omega] at hc
    exact hc)
  have D2 := Lib.hid (fun W (h : CT W) => show Calls Tryd.prog 13 #[.int .i64 ((n : Int) + 210379680)] W fun e w' => e = .returned (.tuple #[.agg (dateN (n + 210379680)).list.toArray, .int .i64 0]) ∧ Below W.heap.size W w' from by
    have hc := dateOf_any ((n + 210379680 : Nat) : Int) (by omega) W h
    rw [show dateL ((n + 210379680 : Nat) : Int) = (dateN (n + 210379680)).list by unfold dateL; rw [if_neg (by omega), Int.toNat_natCast], show dateE ((n + 210379680 : Nat) : Int) = 0 by unfold dateE; rw [if_neg (by omega)], show ((n + 210379680 : Nat) : Int) = (n : Int) + 210379680 by omega] at hc
    exact hc)
  obtain ⟨a1, a2, a3, hcase⟩ := date_next n
  obtain ⟨c1, c2, c3, c4⟩ := date_400 n
  have hw7 : (dateN n).w < 7 := by rw [dateN_day]; exact Nat.mod_lt _ (by decide)
  have hin := date_in n
  have hyb : (dateN n).y ≤ 100000000 := by
    have h := (yrOf_lt (2000 + n / 1440 / 146097 * 400) (n / 1440 % 146097)).2
    have e : (dateN n).y = (yrOf (2000 + n / 1440 / 146097 * 400) (n / 1440 % 146097)).1 := rfl
    omega
  obtain ⟨x, hx⟩ : ∃ x, x = dateN n := ⟨_, rfl⟩
  obtain ⟨y, hy⟩ : ∃ y, y = dateN (n + 1440) := ⟨_, rfl⟩
  obtain ⟨z, hz⟩ : ∃ z, z = dateN (n + 210379680) := ⟨_, rfl⟩
  rw [← hx, ← hy] at a1 a2 a3 hcase
  rw [← hx, ← hz] at c1 c2 c3 c4
  rw [← hx] at D0 hw7 hin hyb
  rw [← hy] at D1
  rw [← hz] at D2
  have SZX := Lib.hid (show ∀ x : DateD, (Tryd.prog.info? 32).map (·.size) = some x.list.toArray.size from fun x => by show _ = some 6; kernel_rfl)
  have S66 := Lib.hid (show ∀ x : DateD, 6 = x.list.toArray.size from fun x => rfl)
  have HF := Lib.hid (show y.h = x.h ∧ y.mi = x.mi ∧ y.w = (x.w + 1) % 7 ∧ z.y = x.y + 400 ∧ z.m = x.m ∧ z.d = x.d ∧ z.w = x.w ∧ x.w < 7 ∧ x.y ≤ 100000000 ∧ x.m ≤ 12 ∧ x.d ≤ 31 from ⟨a1, a2, a3, c1, c2, c3, c4, hw7, hyb, hin.2.1, hin.2.2.2.1⟩)
  have HC := Lib.hid (show (y.y = x.y ∧ y.m = x.m ∧ y.d = x.d + 1 ∧ x.d + 1 ≤ 31) ∨ (y.y = x.y ∧ y.m = x.m + 1 ∧ y.d = 1 ∧ x.m ≠ 12 ∧ 28 ≤ x.d) ∨ (y.y = x.y + 1 ∧ y.m = 1 ∧ y.d = 1 ∧ x.m = 12 ∧ x.d = 31) from hcase)
  clear hx hy hz a1 a2 a3 hcase c1 c2 c3 c4 hw7 hin hyb hbad
  go_enter Tryd.func7, Tryd.ntmps7
  go_wp2_with fail
  refine FA.out.mono ?_
  rintro e w1 ⟨rfl, hb1⟩
  have HB1 := Lib.hid hb1
  clear hb1
  go_wp2_with fail
  refine (D0.out _ (HT.out.below HB1.out (Nat.le_refl _))).mono ?_
  rintro e w2 ⟨rfl, hb2⟩
  obtain ⟨w3, hw3⟩ : ∃ w3, w3 = w2.alloc (.cells x.list.toArray 32) := ⟨_, rfl⟩
  obtain ⟨k3, hk3⟩ : ∃ k, k = w2.heap.size := ⟨_, rfl⟩
  have hb3 : Below w2.heap.size w2 w3 := by rw [hw3]; exact (Below.refl _ _).alloc (Nat.le_refl _) _
  have n3 : w3.heap[k3]? = some (.cells x.list.toArray 32 (0, 0)) := by rw [hw3, hk3]; exact heap_alloc_new _ _
  have B13 := Lib.hid (hb2.trans (hb3.mono hb2.size))
  have HB3 := Lib.hid (HB1.out.trans (B13.out.mono HB1.out.size))
  have N3 := Lib.hid n3
  have HW3 := Lib.hid hw3
  have HK3 := Lib.hid hk3
  clear hb2 hw3 hk3 hb3 n3
  go_wp2_with (with_reducible show wpList _ _ _ _ _ _; refine wpList_store_newW rfl 32 (.tmp 3) (.tmp 20) rfl 32 _ x.list.toArray rfl rfl (SZX.out x) (by with_unfolding_all exact S66.out x) (DateD.one x) ?_; rw [← HW3.out, ← HK3.out])
  refine (D1.out _ (HT.out.below HB3.out (Nat.le_refl _))).mono ?_
  rintro e w4 ⟨rfl, hb4⟩
  obtain ⟨w5, hw5⟩ : ∃ w5, w5 = w4.alloc (.cells y.list.toArray 32) := ⟨_, rfl⟩
  obtain ⟨k5, hk5⟩ : ∃ k, k = w4.heap.size := ⟨_, rfl⟩
  have hb5 : Below w4.heap.size w4 w5 := by rw [hw5]; exact (Below.refl _ _).alloc (Nat.le_refl _) _
  have n5 : w5.heap[k5]? = some (.cells y.list.toArray 32 (0, 0)) := by rw [hw5, hk5]; exact heap_alloc_new _ _
  have B35 := Lib.hid (hb4.trans (hb5.mono hb4.size))
  have HB5 := Lib.hid (HB3.out.trans (B35.out.mono HB3.out.size))
  have N5 := Lib.hid n5
  have HW5 := Lib.hid hw5
  have HK5 := Lib.hid hk5
  clear hb4 hw5 hk5 hb5 n5
  go_wp2_with (with_reducible show wpList _ _ _ _ _ _; refine wpList_store_newW rfl 32 (.tmp 5) (.tmp 26) rfl 32 _ y.list.toArray rfl rfl (SZX.out y) (by with_unfolding_all exact S66.out y) (DateD.one y) ?_; rw [← HW5.out, ← HK5.out])
  refine (D2.out _ (HT.out.below HB5.out (Nat.le_refl _))).mono ?_
  rintro e w6 ⟨rfl, hb6⟩
  obtain ⟨w7, hw7⟩ : ∃ w7, w7 = w6.alloc (.cells z.list.toArray 32) := ⟨_, rfl⟩
  obtain ⟨k7, hk7⟩ : ∃ k, k = w6.heap.size := ⟨_, rfl⟩
  have hb7 : Below w6.heap.size w6 w7 := by rw [hw7]; exact (Below.refl _ _).alloc (Nat.le_refl _) _
  have n7 : w7.heap[k7]? = some (.cells z.list.toArray 32 (0, 0)) := by rw [hw7, hk7]; exact heap_alloc_new _ _
  have B57 := Lib.hid (hb6.trans (hb7.mono hb6.size))
  have HB7 := Lib.hid (HB5.out.trans (B57.out.mono HB5.out.size))
  have N7 := Lib.hid n7
  have HW7 := Lib.hid hw7
  have HK7 := Lib.hid hk7
  clear hb6 hw7 hk7 hb7 n7
  go_upto_region 8 with (with_reducible show wpList _ _ _ _ _ _; refine wpList_store_newW rfl 32 (.tmp 7) (.tmp 32) rfl 32 _ z.list.toArray rfl rfl (SZX.out z) (by with_unfolding_all exact S66.out z) (DateD.one z) ?_; rw [← HW7.out, ← HK7.out])
  have r3 := (B57.out.block k3 (lt_of_rowW ((B35.out.block k3 (lt_of_rowW N3.out)).trans N3.out))).trans ((B35.out.block k3 (lt_of_rowW N3.out)).trans N3.out)
  have r5 := (B57.out.block k5 (lt_of_rowW N5.out)).trans N5.out
  have q3 := fun j => cell_of_rowW w7 k3 j _ _ _ r3
  have q5 := fun j => cell_of_rowW w7 k5 j _ _ _ r5
  have q7 := fun j => cell_of_rowW w7 k7 j _ _ _ N7.out
  obtain ⟨f1, f2, f3, f4, f5, f6, f7, f8, f9, f10, f11⟩ := HF.out
  obtain ⟨yy, ym, yd, yh, ymi, yw⟩ := y
  obtain ⟨zy, zm, zd, zh, zmi, zw⟩ := z
  obtain ⟨xy, xm, xd, xh, xmi, xw⟩ := x
  dsimp only at f1 f2 f3 f4 f5 f6 f7 f8 f9 f10 f11
  replace f1 := f1.symm
  replace f2 := f2.symm
  replace f5 := f5.symm
  replace f6 := f6.symm
  replace f7 := f7.symm
  subst f1 f2 f3 f4 f5 f6 f7
  have hc := HC.out
  dsimp only at hc
  have E1 : (((xw + 1) % 7 : Nat) : Int) = ((xw : Int) + 1) % 7 := by omega
  have E2 : ((xy + 400 : Nat) : Int) = (xy : Int) + 400 := by omega
  have HHB := HB7
  rcases hc with hc | hc | hc
  · obtain ⟨g1, g2, g3, g4⟩ := hc
    have hwa : ¬ (xw : Int) < 0 := by omega
    have hwb : ¬ (6 : Int) < (xw : Int) := by omega
    have hy1 : (0 : Int) ≤ (xy : Int) := by omega
    have hy2 : (xy : Int) ≤ 100000000 := by omega
    have hm1 : (0 : Int) ≤ (xm : Int) := by omega
    have hm2 : (xm : Int) ≤ 12 := by omega
    have hd1 : (0 : Int) ≤ (xd : Int) := by omega
    have hd2 : (xd : Int) ≤ 31 := by omega
    have x0 : w7.cell? ⟨k3, 0, none⟩ = some (.int .i64 (xy : Int)) := by rw [q3 0, List.getElem?_toArray]; show some (Value.int .i64 _) = _; first | rfl | (congr 2; (try dsimp only); omega)
    have x1 : w7.cell? ⟨k3, 1, none⟩ = some (.int .i64 (xm : Int)) := by rw [q3 1, List.getElem?_toArray]; show some (Value.int .i64 _) = _; first | rfl | (congr 2; (try dsimp only); omega)
    have x2 : w7.cell? ⟨k3, 2, none⟩ = some (.int .i64 (xd : Int)) := by rw [q3 2, List.getElem?_toArray]; show some (Value.int .i64 _) = _; first | rfl | (congr 2; (try dsimp only); omega)
    have x3 : w7.cell? ⟨k3, 3, none⟩ = some (.int .i64 (xh : Int)) := by rw [q3 3, List.getElem?_toArray]; show some (Value.int .i64 _) = _; first | rfl | (congr 2; (try dsimp only); omega)
    have x4 : w7.cell? ⟨k3, 4, none⟩ = some (.int .i64 (xmi : Int)) := by rw [q3 4, List.getElem?_toArray]; show some (Value.int .i64 _) = _; first | rfl | (congr 2; (try dsimp only); omega)
    have x5 : w7.cell? ⟨k3, 5, none⟩ = some (.int .i64 (xw : Int)) := by rw [q3 5, List.getElem?_toArray]; show some (Value.int .i64 _) = _; first | rfl | (congr 2; (try dsimp only); omega)
    have y0 : w7.cell? ⟨k5, 0, none⟩ = some (.int .i64 (xy : Int)) := by rw [q5 0, List.getElem?_toArray]; show some (Value.int .i64 _) = _; first | rfl | (congr 2; (try dsimp only); omega)
    have y1 : w7.cell? ⟨k5, 1, none⟩ = some (.int .i64 (xm : Int)) := by rw [q5 1, List.getElem?_toArray]; show some (Value.int .i64 _) = _; first | rfl | (congr 2; (try dsimp only); omega)
    have y2 : w7.cell? ⟨k5, 2, none⟩ = some (.int .i64 ((xd : Int) + 1)) := by rw [q5 2, List.getElem?_toArray]; show some (Value.int .i64 _) = _; first | rfl | (congr 2; (try dsimp only); omega)
    have y3 : w7.cell? ⟨k5, 3, none⟩ = some (.int .i64 (xh : Int)) := by rw [q5 3, List.getElem?_toArray]; show some (Value.int .i64 _) = _; first | rfl | (congr 2; (try dsimp only); omega)
    have y4 : w7.cell? ⟨k5, 4, none⟩ = some (.int .i64 (xmi : Int)) := by rw [q5 4, List.getElem?_toArray]; show some (Value.int .i64 _) = _; first | rfl | (congr 2; (try dsimp only); omega)
    have y5 : w7.cell? ⟨k5, 5, none⟩ = some (.int .i64 (((xw : Int) + 1) % 7)) := by rw [q5 5, List.getElem?_toArray]; show some (Value.int .i64 _) = _; first | rfl | (congr 2; (try dsimp only); omega)
    have z0 : w7.cell? ⟨k7, 0, none⟩ = some (.int .i64 ((xy : Int) + 400)) := by rw [q7 0, List.getElem?_toArray]; show some (Value.int .i64 _) = _; first | rfl | (congr 2; (try dsimp only); omega)
    have z1 : w7.cell? ⟨k7, 1, none⟩ = some (.int .i64 (xm : Int)) := by rw [q7 1, List.getElem?_toArray]; show some (Value.int .i64 _) = _; first | rfl | (congr 2; (try dsimp only); omega)
    have z2 : w7.cell? ⟨k7, 2, none⟩ = some (.int .i64 (xd : Int)) := by rw [q7 2, List.getElem?_toArray]; show some (Value.int .i64 _) = _; first | rfl | (congr 2; (try dsimp only); omega)
    have z5 : w7.cell? ⟨k7, 5, none⟩ = some (.int .i64 (xw : Int)) := by rw [q7 5, List.getElem?_toArray]; show some (Value.int .i64 _) = _; first | rfl | (congr 2; (try dsimp only); omega)
    have u1 : (xd : Int) + 1 ≤ 31 := by omega
    clear q3 q5 q7 r3 r5 E1 E2 f8 f9 f10 f11 g1 g2 g3 g4
    generalize (xy : Int) = XY at *
    generalize (xm : Int) = XM at *
    generalize (xd : Int) = XD at *
    generalize (xh : Int) = XH at *
    generalize (xmi : Int) = XMI at *
    generalize (xw : Int) = XW at *
    go_wp2_with fail
    go_ret
    exact ⟨rfl, HHB.out⟩
  · obtain ⟨g1, g2, g3, g4, g5⟩ := hc
    have hwa : ¬ (xw : Int) < 0 := by omega
    have hwb : ¬ (6 : Int) < (xw : Int) := by omega
    have hy1 : (0 : Int) ≤ (xy : Int) := by omega
    have hy2 : (xy : Int) ≤ 100000000 := by omega
    have hm1 : (0 : Int) ≤ (xm : Int) := by omega
    have hm2 : (xm : Int) ≤ 12 := by omega
    have hd1 : (0 : Int) ≤ (xd : Int) := by omega
    have hd2 : (xd : Int) ≤ 31 := by omega
    have x0 : w7.cell? ⟨k3, 0, none⟩ = some (.int .i64 (xy : Int)) := by rw [q3 0, List.getElem?_toArray]; show some (Value.int .i64 _) = _; first | rfl | (congr 2; (try dsimp only); omega)
    have x1 : w7.cell? ⟨k3, 1, none⟩ = some (.int .i64 (xm : Int)) := by rw [q3 1, List.getElem?_toArray]; show some (Value.int .i64 _) = _; first | rfl | (congr 2; (try dsimp only); omega)
    have x2 : w7.cell? ⟨k3, 2, none⟩ = some (.int .i64 (xd : Int)) := by rw [q3 2, List.getElem?_toArray]; show some (Value.int .i64 _) = _; first | rfl | (congr 2; (try dsimp only); omega)
    have x3 : w7.cell? ⟨k3, 3, none⟩ = some (.int .i64 (xh : Int)) := by rw [q3 3, List.getElem?_toArray]; show some (Value.int .i64 _) = _; first | rfl | (congr 2; (try dsimp only); omega)
    have x4 : w7.cell? ⟨k3, 4, none⟩ = some (.int .i64 (xmi : Int)) := by rw [q3 4, List.getElem?_toArray]; show some (Value.int .i64 _) = _; first | rfl | (congr 2; (try dsimp only); omega)
    have x5 : w7.cell? ⟨k3, 5, none⟩ = some (.int .i64 (xw : Int)) := by rw [q3 5, List.getElem?_toArray]; show some (Value.int .i64 _) = _; first | rfl | (congr 2; (try dsimp only); omega)
    have y0 : w7.cell? ⟨k5, 0, none⟩ = some (.int .i64 (xy : Int)) := by rw [q5 0, List.getElem?_toArray]; show some (Value.int .i64 _) = _; first | rfl | (congr 2; (try dsimp only); omega)
    have y1 : w7.cell? ⟨k5, 1, none⟩ = some (.int .i64 ((xm : Int) + 1)) := by rw [q5 1, List.getElem?_toArray]; show some (Value.int .i64 _) = _; first | rfl | (congr 2; (try dsimp only); omega)
    have y2 : w7.cell? ⟨k5, 2, none⟩ = some (.int .i64 1) := by rw [q5 2, List.getElem?_toArray]; show some (Value.int .i64 _) = _; first | rfl | (congr 2; (try dsimp only); omega)
    have y3 : w7.cell? ⟨k5, 3, none⟩ = some (.int .i64 (xh : Int)) := by rw [q5 3, List.getElem?_toArray]; show some (Value.int .i64 _) = _; first | rfl | (congr 2; (try dsimp only); omega)
    have y4 : w7.cell? ⟨k5, 4, none⟩ = some (.int .i64 (xmi : Int)) := by rw [q5 4, List.getElem?_toArray]; show some (Value.int .i64 _) = _; first | rfl | (congr 2; (try dsimp only); omega)
    have y5 : w7.cell? ⟨k5, 5, none⟩ = some (.int .i64 (((xw : Int) + 1) % 7)) := by rw [q5 5, List.getElem?_toArray]; show some (Value.int .i64 _) = _; first | rfl | (congr 2; (try dsimp only); omega)
    have z0 : w7.cell? ⟨k7, 0, none⟩ = some (.int .i64 ((xy : Int) + 400)) := by rw [q7 0, List.getElem?_toArray]; show some (Value.int .i64 _) = _; first | rfl | (congr 2; (try dsimp only); omega)
    have z1 : w7.cell? ⟨k7, 1, none⟩ = some (.int .i64 (xm : Int)) := by rw [q7 1, List.getElem?_toArray]; show some (Value.int .i64 _) = _; first | rfl | (congr 2; (try dsimp only); omega)
    have z2 : w7.cell? ⟨k7, 2, none⟩ = some (.int .i64 (xd : Int)) := by rw [q7 2, List.getElem?_toArray]; show some (Value.int .i64 _) = _; first | rfl | (congr 2; (try dsimp only); omega)
    have z5 : w7.cell? ⟨k7, 5, none⟩ = some (.int .i64 (xw : Int)) := by rw [q7 5, List.getElem?_toArray]; show some (Value.int .i64 _) = _; first | rfl | (congr 2; (try dsimp only); omega)
    have u1 : ¬ (xm : Int) = 12 := by omega
    have u2 : (28 : Int) ≤ (xd : Int) := by omega
    have u3 : ¬ (1 : Int) = (xd : Int) + 1 := by omega
    clear q3 q5 q7 r3 r5 E1 E2 f8 f9 f10 f11 g1 g2 g3 g4 g5
    generalize (xy : Int) = XY at *
    generalize (xm : Int) = XM at *
    generalize (xd : Int) = XD at *
    generalize (xh : Int) = XH at *
    generalize (xmi : Int) = XMI at *
    generalize (xw : Int) = XW at *
    go_wp2_with fail
    go_ret
    exact ⟨rfl, HHB.out⟩
  · obtain ⟨g1, g2, g3, g4, g5⟩ := hc
    have hwa : ¬ (xw : Int) < 0 := by omega
    have hwb : ¬ (6 : Int) < (xw : Int) := by omega
    have hy1 : (0 : Int) ≤ (xy : Int) := by omega
    have hy2 : (xy : Int) ≤ 100000000 := by omega
    have hm1 : (0 : Int) ≤ (xm : Int) := by omega
    have hm2 : (xm : Int) ≤ 12 := by omega
    have hd1 : (0 : Int) ≤ (xd : Int) := by omega
    have hd2 : (xd : Int) ≤ 31 := by omega
    have x0 : w7.cell? ⟨k3, 0, none⟩ = some (.int .i64 (xy : Int)) := by rw [q3 0, List.getElem?_toArray]; show some (Value.int .i64 _) = _; first | rfl | (congr 2; (try dsimp only); omega)
    have x1 : w7.cell? ⟨k3, 1, none⟩ = some (.int .i64 (xm : Int)) := by rw [q3 1, List.getElem?_toArray]; show some (Value.int .i64 _) = _; first | rfl | (congr 2; (try dsimp only); omega)
    have x2 : w7.cell? ⟨k3, 2, none⟩ = some (.int .i64 (xd : Int)) := by rw [q3 2, List.getElem?_toArray]; show some (Value.int .i64 _) = _; first | rfl | (congr 2; (try dsimp only); omega)
    have x3 : w7.cell? ⟨k3, 3, none⟩ = some (.int .i64 (xh : Int)) := by rw [q3 3, List.getElem?_toArray]; show some (Value.int .i64 _) = _; first | rfl | (congr 2; (try dsimp only); omega)
    have x4 : w7.cell? ⟨k3, 4, none⟩ = some (.int .i64 (xmi : Int)) := by rw [q3 4, List.getElem?_toArray]; show some (Value.int .i64 _) = _; first | rfl | (congr 2; (try dsimp only); omega)
    have x5 : w7.cell? ⟨k3, 5, none⟩ = some (.int .i64 (xw : Int)) := by rw [q3 5, List.getElem?_toArray]; show some (Value.int .i64 _) = _; first | rfl | (congr 2; (try dsimp only); omega)
    have y0 : w7.cell? ⟨k5, 0, none⟩ = some (.int .i64 ((xy : Int) + 1)) := by rw [q5 0, List.getElem?_toArray]; show some (Value.int .i64 _) = _; first | rfl | (congr 2; (try dsimp only); omega)
    have y1 : w7.cell? ⟨k5, 1, none⟩ = some (.int .i64 1) := by rw [q5 1, List.getElem?_toArray]; show some (Value.int .i64 _) = _; first | rfl | (congr 2; (try dsimp only); omega)
    have y2 : w7.cell? ⟨k5, 2, none⟩ = some (.int .i64 1) := by rw [q5 2, List.getElem?_toArray]; show some (Value.int .i64 _) = _; first | rfl | (congr 2; (try dsimp only); omega)
    have y3 : w7.cell? ⟨k5, 3, none⟩ = some (.int .i64 (xh : Int)) := by rw [q5 3, List.getElem?_toArray]; show some (Value.int .i64 _) = _; first | rfl | (congr 2; (try dsimp only); omega)
    have y4 : w7.cell? ⟨k5, 4, none⟩ = some (.int .i64 (xmi : Int)) := by rw [q5 4, List.getElem?_toArray]; show some (Value.int .i64 _) = _; first | rfl | (congr 2; (try dsimp only); omega)
    have y5 : w7.cell? ⟨k5, 5, none⟩ = some (.int .i64 (((xw : Int) + 1) % 7)) := by rw [q5 5, List.getElem?_toArray]; show some (Value.int .i64 _) = _; first | rfl | (congr 2; (try dsimp only); omega)
    have z0 : w7.cell? ⟨k7, 0, none⟩ = some (.int .i64 ((xy : Int) + 400)) := by rw [q7 0, List.getElem?_toArray]; show some (Value.int .i64 _) = _; first | rfl | (congr 2; (try dsimp only); omega)
    have z1 : w7.cell? ⟨k7, 1, none⟩ = some (.int .i64 (xm : Int)) := by rw [q7 1, List.getElem?_toArray]; show some (Value.int .i64 _) = _; first | rfl | (congr 2; (try dsimp only); omega)
    have z2 : w7.cell? ⟨k7, 2, none⟩ = some (.int .i64 (xd : Int)) := by rw [q7 2, List.getElem?_toArray]; show some (Value.int .i64 _) = _; first | rfl | (congr 2; (try dsimp only); omega)
    have z5 : w7.cell? ⟨k7, 5, none⟩ = some (.int .i64 (xw : Int)) := by rw [q7 5, List.getElem?_toArray]; show some (Value.int .i64 _) = _; first | rfl | (congr 2; (try dsimp only); omega)
    have u1 : (xm : Int) = 12 := by omega
    have u2 : (xd : Int) = 31 := by omega
    clear q3 q5 q7 r3 r5 E1 E2 f8 f9 f10 f11 g1 g2 g3 g4 g5
    generalize (xy : Int) = XY at *
    generalize (xm : Int) = XM at *
    generalize (xd : Int) = XD at *
    generalize (xh : Int) = XH at *
    generalize (xmi : Int) = XMI at *
    generalize (xw : Int) = XW at *
    go_wp2_with fail
    go_ret
    exact ⟨rfl, HHB.out⟩
end Go.Proofs.YtdifhgfgppddpaaDoor
