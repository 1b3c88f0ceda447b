/- CronStars: theory and walk. -/
import Derived.Test.YtdifhgfgppddpaaDoorCm
namespace Go.Proofs.YtdifhgfgppddpaaDoor
open Go Go.RowKit
set_option linter.unusedVariables false
set_option linter.unusedSimpArgs false
/-- Fields that have all numbers. -/
def fullD (b : Bool) : List (List Nat × Bool) := [(List.range 60, b), (List.range 24, b), ((List.range 31).map (· + 1), b), ((List.range 12).map (· + 1), b), (List.range 7, b)]
def star0 : List UInt8 := [42, 32, 42, 32, 42, 32, 42, 32, 42]
def star1 : List UInt8 := [42, 47, 49, 32, 42, 47, 49, 32, 42, 47, 49, 32, 42, 47, 49, 32, 42, 47, 49]
def star2 : List UInt8 := [48, 45, 53, 57, 32, 48, 45, 50, 51, 32, 49, 45, 51, 49, 32, 49, 45, 49, 50, 32, 48, 45, 54]
def star3 : List UInt8 := [48, 45, 50, 57, 44, 51, 48, 45, 53, 57, 32, 48, 47, 49, 32, 49, 45, 49, 53, 44, 49, 54, 45, 51, 49, 32, 49, 47, 49, 32, 48, 44, 49, 44, 50, 44, 51, 44, 52, 44, 53, 44, 54]
theorem star0_parse : parseM star0 = (0, fullD true) := by rw [parseN_eq]; decide +kernel
theorem star1_parse : parseM star1 = (0, fullD false) := by rw [parseN_eq]; decide +kernel
theorem star2_parse : parseM star2 = (0, fullD false) := by rw [parseN_eq]; decide +kernel
theorem star3_parse : parseM star3 = (0, fullD false) := by rw [parseN_eq]; decide +kernel
theorem date_in (t : Nat) : 1 ≤ (dateN t).m ∧ (dateN t).m ≤ 12 ∧ 1 ≤ (dateN t).d ∧ (dateN t).d ≤ 31 ∧ (dateN t).h < 24 ∧ (dateN t).mi < 60 ∧ (dateN t).w < 7 := by
  have h1 := yrOf_lt (2000 + t / 1440 / 146097 * 400) (t / 1440 % 146097)
  have h2 := mon_le _ _ h1.1
  have h3 := mon_ge1 (mlens (yrOf (2000 + t / 1440 / 146097 * 400) (t / 1440 % 146097)).1) 1 (yrOf (2000 + t / 1440 / 146097 * 400) (t / 1440 % 146097)).2
  unfold dateN
  exact ⟨h3, h2.1, by dsimp only; omega, by dsimp only; omega, by dsimp only; omega, by dsimp only; omega, by dsimp only; omega⟩
theorem full_fits (b : Bool) (t : Nat) : fitsDayN (fullD b) (dateN t) = true ∧ decide ((dateN t).h ∈ ((fullD b).getD 1 ([], false)).1) = true ∧ decide ((dateN t).mi ∈ ((fullD b).getD 0 ([], false)).1) = true := by
  obtain ⟨h1, h2, h3, h4, h5, h6, h7⟩ := date_in t
  generalize dateN t = x at *
  have m0 : x.mi ∈ List.range 60 := by simp; omega
  have m1 : x.h ∈ List.range 24 := by simp; omega
  have m2 : x.d ∈ (List.range 31).map (· + 1) := by rw [List.mem_map]; exact ⟨x.d - 1, by simp; omega, by omega⟩
  have m3 : x.m ∈ (List.range 12).map (· + 1) := by rw [List.mem_map]; exact ⟨x.m - 1, by simp; omega, by omega⟩
  have m4 : x.w ∈ List.range 7 := by simp; omega
  refine ⟨?_, decide_eq_true m1, decide_eq_true m0⟩
  have hD : fitsDayN (fullD b) x = ((if b || b then decide (x.d ∈ (List.range 31).map (· + 1)) && decide (x.w ∈ List.range 7) else decide (x.d ∈ (List.range 31).map (· + 1)) || decide (x.w ∈ List.range 7)) && decide (x.m ∈ (List.range 12).map (· + 1))) := rfl
  rw [hD, decide_eq_true m2, decide_eq_true m3, decide_eq_true m4]
  cases b <;> rfl
theorem full_fitsN (b : Bool) (t : Nat) : fitsN (fullD b) (dateN t) = true := by
  obtain ⟨h1, h2, h3⟩ := full_fits b t
  unfold fitsN
  rw [h1, h2, h3]
  rfl
theorem full_next (b : Bool) (f last m : Nat) (h : m ≤ last) : nextF (fullD b) (f + 1) last m = some m := by
  obtain ⟨h1, h2, h3⟩ := full_fits b m
  rw [nextF, if_neg (by omega), if_neg (by rw [h1]; decide), if_neg (by rw [h2]; decide), if_neg (by rw [h3]; decide)]
set_option maxRecDepth 100000 in
set_option maxHeartbeats 8000000 in
theorem cronStars_any (t way : Int) (ht : -9223372036854775808 ≤ t ∧ t ≤ 9223372036854775807) (w : World) (hT : CT w) : Calls Tryd.prog 8 #[.int .i64 t, .int .i64 way] w fun e w' => e = .returned (.bool true) ∧ Below w.heap.size w w' := by
  have FA := Lib.hid (finds_any w hT)
  have HT := Lib.hid hT
  clear hT
  by_cases hbad : t < 0 ∨ 2147483648 < t
  · go_enter Tryd.func8, Tryd.ntmps8
    go_wp2_with fail
    refine FA.out.mono ?_
    rintro e w1 ⟨rfl, hb1⟩
    have HB1 := Lib.hid hb1
    clear hb1
    rcases hbad with h | h
    · go_wp2_with fail
      go_ret
      exact ⟨rfl, HB1.out⟩
    · have h0 : ¬ t < 0 := by omega
      go_wp2_with fail
      go_ret
      exact ⟨rfl, HB1.out⟩
  obtain ⟨n, rfl⟩ : ∃ n : Nat, t = (n : Int) := ⟨t.toNat, by omega⟩
  have h0 : ¬ (n : Int) < 0 := by omega
  have h1 : ¬ (2147483648 : Int) < (n : Int) := by omega
  have hnb : n ≤ 2147483648 := by omega
  have D0 := Lib.hid (fun W (h : CT W) => show Calls Tryd.prog 13 #[.int .i64 (n : Int)] W fun e w' => e = .returned (.tuple #[.agg (dateN n).list.toArray, .int .i64 0]) ∧ Below W.heap.size W w' from by
    have hc := dateOf_any (n : Int) (by omega) W h
    rw [show dateL (n : Int) = (dateN n).list by unfold dateL; rw [if_neg (by omega), Int.toNat_natCast], show dateE (n : Int) = 0 by unfold dateE; rw [if_neg (by omega)]] at hc
    exact hc)
  have FF := Lib.hid (fun b => full_fitsN b n)
  have NV := Lib.hid (fun b => show nextV (fullD b) (n : Int) = .tuple #[.int .i64 ((n : Int) + 1), .int .i64 0] from by
    rw [nextV_ok (m := n + 1) (by omega) (by rw [show ((n : Int) + 1).toNat = n + 1 by omega]; exact full_next b 527040 _ _ (by omega))]
    rw [show ((n + 1 : Nat) : Int) = (n : Int) + 1 by omega])
  have HSM := Lib.hid (date_small n)
  obtain ⟨x, hx⟩ : ∃ x, x = dateN n := ⟨_, rfl⟩
  rw [← hx] at D0 FF HSM
  have SZX := Lib.hid (show (Tryd.prog.info? 32).map (·.size) = some x.list.toArray.size from by show _ = some 6; kernel_rfl)
  have S66 := Lib.hid (show 6 = x.list.toArray.size from rfl)
  have SO := Lib.hid (DateD.one x)
  clear hx hbad
  by_cases k1 : way = 1
  · subst k1
    go_enter Tryd.func8, Tryd.ntmps8
    go_wp2_with fail
    refine FA.out.mono ?_
    rintro e w1 ⟨rfl, hb1⟩
    have pc := parse_ok star1_parse (by decide) w1 (HT.out.below hb1 (Nat.le_refl _))
    rw [show str star1 = ⟨#[42, 47, 49, 32, 42, 47, 49, 32, 42, 47, 49, 32, 42, 47, 49, 32, 42, 47, 49]⟩ from rfl] at pc
    have PC := Lib.hid pc
    have HB1 := Lib.hid hb1
    clear pc hb1
    go_wp2_with fail
    refine PC.out.mono ?_
    rintro e w2 ⟨hb2, g, rfl, hg, hs2⟩
    have HB2 := Lib.hid (HB1.out.trans (hb2.mono HB1.out.size))
    have HS2 := Lib.hid hs2
    clear PC hb2 hg hs2
    go_wp2_with fail
    refine (D0.out _ (HT.out.below HB2.out (Nat.le_refl _))).mono ?_
    rintro e w3 ⟨rfl, hb3⟩
    have HB3 := Lib.hid (HB2.out.trans (hb3.mono HB2.out.size))
    have HS3 := Lib.hid (HS2.out.below hb3)
    obtain ⟨w4, hw4⟩ : ∃ w4, w4 = w3.alloc (.cells x.list.toArray 32) := ⟨_, rfl⟩
    obtain ⟨k, hk⟩ : ∃ k, k = w3.heap.size := ⟨_, rfl⟩
    have hb4 : Below w3.heap.size w3 w4 := by rw [hw4]; exact (Below.refl _ _).alloc (Nat.le_refl _) _
    have nk : w4.heap[k]? = some (.cells x.list.toArray 32 (0, 0)) := by rw [hw4, hk]; exact heap_alloc_new _ _
    have HB4 := Lib.hid (HB3.out.trans (hb4.mono HB3.out.size))
    have HS4 := Lib.hid (HS3.out.below hb4)
    have nc := next_any g star1 (fullD false) (n : Int) (by omega) w4 (HT.out.below HB4.out (Nat.le_refl _)) HS4.out
    rw [NV.out false] at nc
    have NC := Lib.hid nc
    have NK := Lib.hid nk
    have HW4 := Lib.hid hw4
    have HK := Lib.hid hk
    clear hb3 hw4 hk hb4 nk nc
    go_wp2_with (with_reducible show wpList _ _ _ _ _ _; refine wpList_store_newW rfl 32 (.tmp 8) (.tmp 41) rfl 32 _ x.list.toArray rfl rfl SZX.out (by with_unfolding_all exact S66.out) SO.out ?_; rw [← HW4.out, ← HK.out])
    refine NC.out.mono ?_
    rintro e w5 ⟨rfl, hb5⟩
    have HB5 := Lib.hid (HB4.out.trans (hb5.mono HB4.out.size))
    have fc := fits_any g star1 (fullD false) x HSM.out w5 (HS4.out.below hb5)
    rw [FF.out false] at fc
    have FC := Lib.hid fc
    have nk5 := (hb5.block k (lt_of_rowW NK.out)).trans NK.out
    have KD := Lib.hid (show ∀ j v, x.list[j]? = some v → w5.cell? ((⟨k, 0, none⟩ : Addr).add j) = some v from fun j v hj => by
      rw [Addr.add_mid, Nat.zero_add, cell_of_rowW w5 k j _ _ _ nk5]
      simpa using hj)
    clear hb5 fc nk5
    go_wp2_with (with_reducible show wpList _ _ _ _ _ _; refine wpList_load_allW rfl 32 (.tmp 8) rfl ⟨k, 0, none⟩ rfl x.list _ KD.out Tryd.underlying32 rfl (by rw [SZX.out, List.size_toArray]) ?_)
    refine FC.out.mono ?_
    rintro e w6 ⟨rfl, hb6⟩
    have HB6 := Lib.hid (HB5.out.trans (hb6.mono HB5.out.size))
    clear hb6
    go_wp2_with fail
    go_ret
    exact ⟨rfl, HB6.out⟩
  · by_cases k2 : way = 2
    · subst k2
      clear k1
      go_enter Tryd.func8, Tryd.ntmps8
      go_wp2_with fail
      refine FA.out.mono ?_
      rintro e w1 ⟨rfl, hb1⟩
      have pc := parse_ok star2_parse (by decide) w1 (HT.out.below hb1 (Nat.le_refl _))
      rw [show str star2 = ⟨#[48, 45, 53, 57, 32, 48, 45, 50, 51, 32, 49, 45, 51, 49, 32, 49, 45, 49, 50, 32, 48, 45, 54]⟩ from rfl] at pc
      have PC := Lib.hid pc
      have HB1 := Lib.hid hb1
      clear pc hb1
      go_wp2_with fail
      refine PC.out.mono ?_
      rintro e w2 ⟨hb2, g, rfl, hg, hs2⟩
      have HB2 := Lib.hid (HB1.out.trans (hb2.mono HB1.out.size))
      have HS2 := Lib.hid hs2
      clear PC hb2 hg hs2
      go_wp2_with fail
      refine (D0.out _ (HT.out.below HB2.out (Nat.le_refl _))).mono ?_
      rintro e w3 ⟨rfl, hb3⟩
      have HB3 := Lib.hid (HB2.out.trans (hb3.mono HB2.out.size))
      have HS3 := Lib.hid (HS2.out.below hb3)
      obtain ⟨w4, hw4⟩ : ∃ w4, w4 = w3.alloc (.cells x.list.toArray 32) := ⟨_, rfl⟩
      obtain ⟨k, hk⟩ : ∃ k, k = w3.heap.size := ⟨_, rfl⟩
      have hb4 : Below w3.heap.size w3 w4 := by rw [hw4]; exact (Below.refl _ _).alloc (Nat.le_refl _) _
      have nk : w4.heap[k]? = some (.cells x.list.toArray 32 (0, 0)) := by rw [hw4, hk]; exact heap_alloc_new _ _
      have HB4 := Lib.hid (HB3.out.trans (hb4.mono HB3.out.size))
      have HS4 := Lib.hid (HS3.out.below hb4)
      have nc := next_any g star2 (fullD false) (n : Int) (by omega) w4 (HT.out.below HB4.out (Nat.le_refl _)) HS4.out
      rw [NV.out false] at nc
      have NC := Lib.hid nc
      have NK := Lib.hid nk
      have HW4 := Lib.hid hw4
      have HK := Lib.hid hk
      clear hb3 hw4 hk hb4 nk nc
      go_wp2_with (with_reducible show wpList _ _ _ _ _ _; refine wpList_store_newW rfl 32 (.tmp 8) (.tmp 41) rfl 32 _ x.list.toArray rfl rfl SZX.out (by with_unfolding_all exact S66.out) SO.out ?_; rw [← HW4.out, ← HK.out])
      refine NC.out.mono ?_
      rintro e w5 ⟨rfl, hb5⟩
      have HB5 := Lib.hid (HB4.out.trans (hb5.mono HB4.out.size))
      have fc := fits_any g star2 (fullD false) x HSM.out w5 (HS4.out.below hb5)
      rw [FF.out false] at fc
      have FC := Lib.hid fc
      have nk5 := (hb5.block k (lt_of_rowW NK.out)).trans NK.out
      have KD := Lib.hid (show ∀ j v, x.list[j]? = some v → w5.cell? ((⟨k, 0, none⟩ : Addr).add j) = some v from fun j v hj => by
        rw [Addr.add_mid, Nat.zero_add, cell_of_rowW w5 k j _ _ _ nk5]
        simpa using hj)
      clear hb5 fc nk5
      go_wp2_with (with_reducible show wpList _ _ _ _ _ _; refine wpList_load_allW rfl 32 (.tmp 8) rfl ⟨k, 0, none⟩ rfl x.list _ KD.out Tryd.underlying32 rfl (by rw [SZX.out, List.size_toArray]) ?_)
      refine FC.out.mono ?_
      rintro e w6 ⟨rfl, hb6⟩
      have HB6 := Lib.hid (HB5.out.trans (hb6.mono HB5.out.size))
      clear hb6
      go_wp2_with fail
      go_ret
      exact ⟨rfl, HB6.out⟩
    · by_cases k3 : way = 3
      · subst k3
        clear k1 k2
        go_enter Tryd.func8, Tryd.ntmps8
        go_wp2_with fail
        refine FA.out.mono ?_
        rintro e w1 ⟨rfl, hb1⟩
        have pc := parse_ok star3_parse (by decide) w1 (HT.out.below hb1 (Nat.le_refl _))
        rw [show str star3 = ⟨#[48, 45, 50, 57, 44, 51, 48, 45, 53, 57, 32, 48, 47, 49, 32, 49, 45, 49, 53, 44, 49, 54, 45, 51, 49, 32, 49, 47, 49, 32, 48, 44, 49, 44, 50, 44, 51, 44, 52, 44, 53, 44, 54]⟩ from rfl] at pc
        have PC := Lib.hid pc
        have HB1 := Lib.hid hb1
        clear pc hb1
        go_wp2_with fail
        refine PC.out.mono ?_
        rintro e w2 ⟨hb2, g, rfl, hg, hs2⟩
        have HB2 := Lib.hid (HB1.out.trans (hb2.mono HB1.out.size))
        have HS2 := Lib.hid hs2
        clear PC hb2 hg hs2
        go_wp2_with fail
        refine (D0.out _ (HT.out.below HB2.out (Nat.le_refl _))).mono ?_
        rintro e w3 ⟨rfl, hb3⟩
        have HB3 := Lib.hid (HB2.out.trans (hb3.mono HB2.out.size))
        have HS3 := Lib.hid (HS2.out.below hb3)
        obtain ⟨w4, hw4⟩ : ∃ w4, w4 = w3.alloc (.cells x.list.toArray 32) := ⟨_, rfl⟩
        obtain ⟨k, hk⟩ : ∃ k, k = w3.heap.size := ⟨_, rfl⟩
        have hb4 : Below w3.heap.size w3 w4 := by rw [hw4]; exact (Below.refl _ _).alloc (Nat.le_refl _) _
        have nk : w4.heap[k]? = some (.cells x.list.toArray 32 (0, 0)) := by rw [hw4, hk]; exact heap_alloc_new _ _
        have HB4 := Lib.hid (HB3.out.trans (hb4.mono HB3.out.size))
        have HS4 := Lib.hid (HS3.out.below hb4)
        have nc := next_any g star3 (fullD false) (n : Int) (by omega) w4 (HT.out.below HB4.out (Nat.le_refl _)) HS4.out
        rw [NV.out false] at nc
        have NC := Lib.hid nc
        have NK := Lib.hid nk
        have HW4 := Lib.hid hw4
        have HK := Lib.hid hk
        clear hb3 hw4 hk hb4 nk nc
        go_wp2_with (with_reducible show wpList _ _ _ _ _ _; refine wpList_store_newW rfl 32 (.tmp 8) (.tmp 41) rfl 32 _ x.list.toArray rfl rfl SZX.out (by with_unfolding_all exact S66.out) SO.out ?_; rw [← HW4.out, ← HK.out])
        refine NC.out.mono ?_
        rintro e w5 ⟨rfl, hb5⟩
        have HB5 := Lib.hid (HB4.out.trans (hb5.mono HB4.out.size))
        have fc := fits_any g star3 (fullD false) x HSM.out w5 (HS4.out.below hb5)
        rw [FF.out false] at fc
        have FC := Lib.hid fc
        have nk5 := (hb5.block k (lt_of_rowW NK.out)).trans NK.out
        have KD := Lib.hid (show ∀ j v, x.list[j]? = some v → w5.cell? ((⟨k, 0, none⟩ : Addr).add j) = some v from fun j v hj => by
          rw [Addr.add_mid, Nat.zero_add, cell_of_rowW w5 k j _ _ _ nk5]
          simpa using hj)
        clear hb5 fc nk5
        go_wp2_with (with_reducible show wpList _ _ _ _ _ _; refine wpList_load_allW rfl 32 (.tmp 8) rfl ⟨k, 0, none⟩ rfl x.list _ KD.out Tryd.underlying32 rfl (by rw [SZX.out, List.size_toArray]) ?_)
        refine FC.out.mono ?_
        rintro e w6 ⟨rfl, hb6⟩
        have HB6 := Lib.hid (HB5.out.trans (hb6.mono HB5.out.size))
        clear hb6
        go_wp2_with fail
        go_ret
        exact ⟨rfl, HB6.out⟩
      · go_enter Tryd.func8, Tryd.ntmps8
        go_wp2_with fail
        refine FA.out.mono ?_
        rintro e w1 ⟨rfl, hb1⟩
        have pc := parse_ok star0_parse (by decide) w1 (HT.out.below hb1 (Nat.le_refl _))
        rw [show str star0 = ⟨#[42, 32, 42, 32, 42, 32, 42, 32, 42]⟩ from rfl] at pc
        have PC := Lib.hid pc
        have HB1 := Lib.hid hb1
        clear pc hb1
        go_wp2_with fail
        refine PC.out.mono ?_
        rintro e w2 ⟨hb2, g, rfl, hg, hs2⟩
        have HB2 := Lib.hid (HB1.out.trans (hb2.mono HB1.out.size))
        have HS2 := Lib.hid hs2
        clear PC hb2 hg hs2
        go_wp2_with fail
        refine (D0.out _ (HT.out.below HB2.out (Nat.le_refl _))).mono ?_
        rintro e w3 ⟨rfl, hb3⟩
        have HB3 := Lib.hid (HB2.out.trans (hb3.mono HB2.out.size))
        have HS3 := Lib.hid (HS2.out.below hb3)
        obtain ⟨w4, hw4⟩ : ∃ w4, w4 = w3.alloc (.cells x.list.toArray 32) := ⟨_, rfl⟩
        obtain ⟨k, hk⟩ : ∃ k, k = w3.heap.size := ⟨_, rfl⟩
        have hb4 : Below w3.heap.size w3 w4 := by rw [hw4]; exact (Below.refl _ _).alloc (Nat.le_refl _) _
        have nk : w4.heap[k]? = some (.cells x.list.toArray 32 (0, 0)) := by rw [hw4, hk]; exact heap_alloc_new _ _
        have HB4 := Lib.hid (HB3.out.trans (hb4.mono HB3.out.size))
        have HS4 := Lib.hid (HS3.out.below hb4)
        have nc := next_any g star0 (fullD true) (n : Int) (by omega) w4 (HT.out.below HB4.out (Nat.le_refl _)) HS4.out
        rw [NV.out true] at nc
        have NC := Lib.hid nc
        have NK := Lib.hid nk
        have HW4 := Lib.hid hw4
        have HK := Lib.hid hk
        clear hb3 hw4 hk hb4 nk nc
        go_wp2_with (with_reducible show wpList _ _ _ _ _ _; refine wpList_store_newW rfl 32 (.tmp 8) (.tmp 41) rfl 32 _ x.list.toArray rfl rfl SZX.out (by with_unfolding_all exact S66.out) SO.out ?_; rw [← HW4.out, ← HK.out])
        refine NC.out.mono ?_
        rintro e w5 ⟨rfl, hb5⟩
        have HB5 := Lib.hid (HB4.out.trans (hb5.mono HB4.out.size))
        have fc := fits_any g star0 (fullD true) x HSM.out w5 (HS4.out.below hb5)
        rw [FF.out true] at fc
        have FC := Lib.hid fc
        have nk5 := (hb5.block k (lt_of_rowW NK.out)).trans NK.out
        have KD := Lib.hid (show ∀ j v, x.list[j]? = some v → w5.cell? ((⟨k, 0, none⟩ : Addr).add j) = some v from fun j v hj => by
          rw [Addr.add_mid, Nat.zero_add, cell_of_rowW w5 k j _ _ _ nk5]
          simpa using hj)
        clear hb5 fc nk5
        go_wp2_with (with_reducible show wpList _ _ _ _ _ _; refine wpList_load_allW rfl 32 (.tmp 8) rfl ⟨k, 0, none⟩ rfl x.list _ KD.out Tryd.underlying32 rfl (by rw [SZX.out, List.size_toArray]) ?_)
        refine FC.out.mono ?_
        rintro e w6 ⟨rfl, hb6⟩
        have HB6 := Lib.hid (HB5.out.trans (hb6.mono HB5.out.size))
        clear hb6
        go_wp2_with fail
        go_ret
        exact ⟨rfl, HB6.out⟩
end Go.Proofs.YtdifhgfgppddpaaDoor
