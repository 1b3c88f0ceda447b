/- As many tasks as may be are had at a time: MatchingMany's walk. -/
import Derived.Test.YtkmhbbcppjckiaaMZT
namespace Go.Proofs.Ytkmhbbcppjckiaa.Ma
open Go Go.RowKit Go.Proofs.Ytkmhbbcppjckiaa
open Go.Proofs.Ytkmhbbcppjckiaa.Hp (i64wf K3 wf3)
open Go.Proofs.Ytkmhbbcppjckiaa.Qu
open Go.Proofs.Ytkmhbbcppjckiaa.Dk (Frm below_drewN)
set_option linter.unusedVariables false
set_option linter.unusedSimpArgs false
set_option maxRecDepth 100000
def NoX : Nat → Prop := fun _ => False
def myRel (w1 : World) (b : Nat) (F : Nat → MM) (m : Nat) (iv : Value) (wr : World) : Prop := ∃ i : Nat, i ≤ m ∧ iv = .int .i64 (i : Int) ∧ MX w1 b NoX (F i) wr
theorem wf_kz {i : Nat} (h : i ≤ 300) : wf3 (kz i) := ⟨WalkArith.wf_i64 (n := (i : Int)) ⟨by omega, by omega⟩, rfl, rfl⟩
set_option maxHeartbeats 4000000 in
theorem many_any (z d : Int) (hz : -9223372036854775808 ≤ z ∧ z ≤ 9223372036854775807) (hd : -9223372036854775808 ≤ d ∧ d ≤ 9223372036854775807) (w : World) : Calls Try.prog 10 #[.int .i64 z, .int .i64 d] w fun e w' => e = .returned (.bool true) ∧ Below w.heap.size w w' := by
  have BR := Lib.hid (brings_any w)
  by_cases hbad : z < 0 ∨ 300 < z ∨ d < 0 ∨ 200 < d
  · by_cases h1 : z < 0
    · go_enter Try.func10, Try.ntmps10
      go_wp2_with (with_reducible refine BR.out.mono ?_; rintro e w1 ⟨rfl, hb1⟩)
      go_ret
      exact ⟨rfl, hb1⟩
    by_cases h2 : 300 < z
    · go_enter Try.func10, Try.ntmps10
      go_wp2_with (with_reducible refine BR.out.mono ?_; rintro e w1 ⟨rfl, hb1⟩)
      go_ret
      exact ⟨rfl, hb1⟩
    by_cases h3 : d < 0
    · go_enter Try.func10, Try.ntmps10
      go_wp2_with (with_reducible refine BR.out.mono ?_; rintro e w1 ⟨rfl, hb1⟩)
      go_ret
      exact ⟨rfl, hb1⟩
    have h4 : 200 < d := by omega
    go_enter Try.func10, Try.ntmps10
    go_wp2_with (with_reducible refine BR.out.mono ?_; rintro e w1 ⟨rfl, hb1⟩)
    go_ret
    exact ⟨rfl, hb1⟩
  have h1 : ¬ z < 0 := by omega
  have h2 : ¬ 300 < z := by omega
  have h3 : ¬ d < 0 := by omega
  have h4 : ¬ 200 < d := by omega
  obtain ⟨n, rfl⟩ : ∃ n : Nat, z = (n : Int) := ⟨z.toNat, by omega⟩
  obtain ⟨m, rfl⟩ : ∃ m : Nat, d = (m : Int) := ⟨d.toNat, by omega⟩
  have hn : n ≤ 300 := by omega
  have hm : m ≤ 200 := by omega
  have SK := Lib.hid (show ∀ k : K3, (Try.prog.info? 32).map (·.size) = some (kcs k).toArray.size from fun k => by kernel_rfl)
  have OK := Lib.hid (fun k : K3 => kcs_one k)
  have SL := Lib.hid (fun l : Ls => lsSizeA l)
  have OL := Lib.hid (fun l : Ls => l.oneA)
  go_enter Try.func10, Try.ntmps10
  go_upto_region 6 with (with_reducible refine BR.out.mono ?_; rintro e w1 ⟨rfl, hb1⟩)
  obtain ⟨w2, hw2⟩ : ∃ x, x = w1.alloc (.cells Try.zeroCells70 70) := ⟨_, rfl⟩
  obtain ⟨b, hb⟩ : ∃ x, x = w1.heap.size := ⟨_, rfl⟩
  have X2 := MX.new w1
  rw [← hw2, ← hb] at X2
  rw [← hw2, ← hb]
  have B2 := Lib.hid (hb1.trans (show Below w.heap.size w1 w2 by rw [hw2]; exact (Below.refl _ _).alloc hb1.size _))
  have GL := Lib.hid (show w.heap.size ≤ b by rw [hb]; exact hb1.size)
  have Q2 := Lib.hid (show MX w2 b NoX (Mz 0) w2 from X2)
  clear hw2 hb hb1 BR X2 hbad h1 h2 h3 h4 hz hd
  go_wp2_with fail
  go_loopw [29] (fun iv wr => myRel w2 b Mz n iv wr) (fun iv _ => n - (intOf iv).toNat)
  case atStart => exact ⟨0, by omega, rfl, Q2.out⟩
  case round =>
    obtain ⟨wq, rfl⟩ : ∃ wq : World, wq = wr := ⟨_, rfl⟩
    obtain ⟨i, hi, rfl, hQ⟩ := hrel
    by_cases hin : i < n
    · have hin2 : (i : Int) < (n : Int) := by omega
      have h0 : (0 : Int) ≤ (i : Int) := by omega
      obtain ⟨w3, hw3⟩ : ∃ w3, w3 = wq.alloc (.cells (kcs (kz i)).toArray 32) := ⟨_, rfl⟩
      obtain ⟨g3, hg3⟩ : ∃ g, g = wq.heap.size := ⟨_, rfl⟩
      have b3 : Below wq.heap.size wq w3 := by rw [hw3]; exact (Below.refl _ _).alloc (Nat.le_refl _) _
      have n3 : w3.heap[g3]? = some (.cells (kcs (kz i)).toArray 32 (0, 0)) := by rw [hw3, hg3]; exact heap_alloc_new _ _
      have K3' := box_at n3
      have X3 := (hQ.below b3).1
      have hmz := mz_add i (by omega)
      have hmp := mz_poll i (by omega)
      have hE : (Mz i).E.length ≤ 256 := by unfold Mz; rw [show (⟨((min i 256 : Nat) : Int), wz (i - 256), lzs (min i 256)⟩ : MM).E = lzs (min i 256) from rfl, lzs_len]; omega
      have AD := Lib.hid (mx_add X3 (kz i) (wf_kz (by omega)) (jz i : Int) 0 rfl (by omega))
      rw [hmz.1, hmz.2] at AD
      have PO := Lib.hid (fun (W : World) (hx : MX w2 b NoX (Mz' i) W) => mx_poll hx (jz i : Int) 2 0 (show (Mz' i).E.length ≤ 256 from hE) (show 0 ≤ (Mz i).giv by unfold Mz; dsimp only; omega) (show (Mz i).giv < 9223372036854775807 by unfold Mz; dsimp only; omega) (by decide) (by decide))
      rw [hmp.1, hmp.2] at PO
      obtain ⟨L, hL⟩ : ∃ L, L = (Mz' i).plL (jz i : Int) 2 0 := ⟨_, rfl⟩
      rw [← hL] at PO
      have hjz : (jz i : Int) = 1 + (i : Int) % 3 := by unfold jz; omega
      have hrm : (i : Int).tmod 3 = (i : Int) % 3 := Int.tmod_eq_emod_of_nonneg h0
      obtain ⟨J, hJ⟩ : ∃ J : Int, J = (i : Int) % 3 := ⟨_, rfl⟩
      rw [← hJ] at hjz hrm
      rw [hjz] at AD PO
      have hJ0 : 0 ≤ J ∧ J < 3 := by omega
      have HW3 := Lib.hid hw3
      have HG3 := Lib.hid hg3
      have HJ := Lib.hid hJ
      obtain ⟨hJ1, hJ2⟩ := hJ0
      clear hQ b3 n3 X3 hmz hmp hE hL hw3 hg3 hjz hJ
      go_upto_region 10 with (first
        | (with_reducible show wpList _ _ _ _ _ _; refine wpList_store_newW rfl 32 (.tmp 7) (.tmp 33) rfl 32 _ (kcs (kz i)).toArray (by with_unfolding_all rfl) (by with_unfolding_all rfl) (SK.out (kz i)) rfl (OK.out (kz i)) ?_))
      rw [← HW3.out, ← HG3.out]
      by_cases hi6 : i < 256
      · rw [if_pos hi6] at PO
        have hi7 : (i : Int) < 256 := by omega
        clear hi6
        go_wp2_with (first
          | ((with_reducible show wpList _ _ _ _ _ _); refine wpList_load_allW rfl 32 (.tmp 7) rfl ⟨g3, 0, none⟩ rfl (kcs (kz i)) _ K3' Try.underlying32 rfl (tkSize _) ?_)
          | ((with_reducible refine AD.out.mono ?_); rintro e w4 ⟨rfl, hx4, hk4⟩; have PO4 := Lib.hid (PO.out w4 hx4))
          | ((with_reducible refine PO4.out.mono ?_); rintro e w5 ⟨rfl, hx5, hk5⟩; have X5 := Lib.hid hx5)
          | (with_reducible show wpList _ _ _ _ _ _; refine wpList_store_newW rfl 80 (.tmp 8) (.tmp 45) rfl 80 _ L.cs.toArray (by with_unfolding_all rfl) (by with_unfolding_all rfl) (SL.out L) rfl (OL.out L) ?_))
        exact ⟨⟨i + 1, by omega, rfl, (X5.out.below ((Below.refl _ _).alloc (Nat.le_refl _) _)).1⟩, by simp [intOf]; omega⟩
      · rw [if_neg hi6] at PO
        have hi7 : ¬ (i : Int) < 256 := by omega
        clear hi6
        go_wp2_with (first
          | ((with_reducible show wpList _ _ _ _ _ _); refine wpList_load_allW rfl 32 (.tmp 7) rfl ⟨g3, 0, none⟩ rfl (kcs (kz i)) _ K3' Try.underlying32 rfl (tkSize _) ?_)
          | ((with_reducible refine AD.out.mono ?_); rintro e w4 ⟨rfl, hx4, hk4⟩; have PO4 := Lib.hid (PO.out w4 hx4))
          | ((with_reducible refine PO4.out.mono ?_); rintro e w5 ⟨rfl, hx5, hk5⟩; have X5 := Lib.hid hx5)
          | (with_reducible show wpList _ _ _ _ _ _; refine wpList_store_newW rfl 80 (.tmp 8) (.tmp 45) rfl 80 _ L.cs.toArray (by with_unfolding_all rfl) (by with_unfolding_all rfl) (SL.out L) rfl (OL.out L) ?_))
        exact ⟨⟨i + 1, by omega, rfl, (X5.out.below ((Below.refl _ _).alloc (Nat.le_refl _) _)).1⟩, by simp [intOf]; omega⟩
    · have hin2 : ¬ (i : Int) < (n : Int) := by omega
      obtain rfl : i = n := by omega
      have hE : (Mz i).E.length = min i 256 := by unfold Mz; exact lzs_len _
      have LE := Lib.hid (mx_leases hQ (by rw [hE]; omega))
      rw [hE] at LE
      obtain ⟨k, hk⟩ : ∃ k, k = min i 256 := ⟨_, rfl⟩
      rw [← hk] at LE
      have HK := Lib.hid hk
      have hk256 : k ≤ 256 := by omega
      clear hQ hE hi hin hk
      go_wp2_with (first
        | ((with_reducible refine LE.out.mono ?_); rintro e w4 ⟨a4, c4, rfl, _, _, hx4, _⟩; have X4 := Lib.hid (show MX w2 b NoX (Md i 0) w4 from hx4); clear hx4))
      go_loopw [64] (fun iv wr => myRel w2 b (Md i) m iv wr) (fun iv _ => m - (intOf iv).toNat)
      case atStart => exact ⟨0, by omega, rfl, X4.out⟩
      case round =>
        obtain ⟨wp, rfl⟩ : ∃ wp : World, wp = wr := ⟨_, rfl⟩
        obtain ⟨j, hj, rfl, hQ⟩ := hrel
        by_cases hjm : j < m
        · have hj2 : (j : Int) < (m : Int) := by omega
          have h0 : (0 : Int) ≤ (j : Int) := by omega
          have hmd := md_done i j
          have DN := Lib.hid (mx_done hQ ((j : Int) + 1) (by rw [md_len]; omega))
          rw [hmd.1, hmd.2, ← HK.out] at DN
          clear hQ hmd
          by_cases hjk : j < k
          · rw [decide_eq_true hjk] at DN
            have hjk2 : (j : Int) < (k : Int) := by omega
            go_wp2_with (first
              | ((with_reducible refine DN.out.mono ?_); rintro e w5 ⟨rfl, hx5, hk5⟩; have X5 := Lib.hid hx5))
            exact ⟨⟨j + 1, by omega, rfl, X5.out⟩, by simp [intOf]; omega⟩
          · rw [decide_eq_false hjk] at DN
            have hjk2 : ¬ (j : Int) < (k : Int) := by omega
            go_wp2_with (first
              | ((with_reducible refine DN.out.mono ?_); rintro e w5 ⟨rfl, hx5, hk5⟩; have X5 := Lib.hid hx5))
            exact ⟨⟨j + 1, by omega, rfl, X5.out⟩, by simp [intOf]; omega⟩
        · have hj2 : ¬ (j : Int) < (m : Int) := by omega
          obtain rfl : j = m := by omega
          have LE2 := Lib.hid (mx_leases hQ (by rw [md_len]; omega))
          rw [md_len, ← HK.out] at LE2
          have hmx : max 0 ((k : Int) - (j : Int)) = ((k - j : Nat) : Int) := by omega
          have hmx2 : max 0 ((i : Int) - 256) = ((i - 256 : Nat) : Int) := by omega
          clear hQ hj hjm
          go_wp2_with (first
            | ((with_reducible refine LE2.out.mono ?_); rintro e w5 ⟨a5, c5, rfl, _, _, hx5, _⟩; have WT := Lib.hid (mx_waiting hx5); rw [md_wt] at WT)
            | ((with_reducible refine WT.out.mono ?_); rintro e w6 ⟨a6, c6, rfl, _, _, hx6, _⟩; have X6 := Lib.hid hx6))
          all_goals go_ret
          all_goals refine ⟨?_, B2.out.trans (X6.out.low GL.out B2.out.size)⟩
          all_goals first | rfl | (refine congrArg (fun z => Ending.returned (.bool z)) (?_ : _ = true); simp; omega)
end Go.Proofs.Ytkmhbbcppjckiaa.Ma
