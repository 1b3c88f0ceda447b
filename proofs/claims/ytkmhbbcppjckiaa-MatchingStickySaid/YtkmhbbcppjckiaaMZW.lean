/- Its own worker first, but not for ever: MatchingSticky's walk. -/
import Derived.Test.YtkmhbbcppjckiaaMZV
namespace Go.Proofs.Ytkmhbbcppjckiaa.Ma
open Go Go.RowKit Go.Proofs.Ytkmhbbcppjckiaa
open Go.Proofs.Ytkmhbbcppjckiaa.Hp (i64wf K3 wf3)
open Go.Proofs.Ytkmhbbcppjckiaa.Qu
open Go.Proofs.Ytkmhbbcppjckiaa.Dk (Frm below_drewN)
set_option linter.unusedVariables false
set_option linter.unusedSimpArgs false
set_option maxRecDepth 100000
def M3 (A B C : MM) : Nat → MM
  | 0 => A
  | 1 => B
  | _ => C
def N3 (a b c : Nat) : Nat → Nat
  | 0 => a
  | 1 => b
  | _ => c
theorem M3_0 (A B C A' : MM) : updQ (M3 A B C) 0 A' = M3 A' B C := by
  funext i
  match i with
  | 0 => rfl
  | 1 => rfl
  | i + 2 => rfl
theorem M3_1 (A B C A' : MM) : updQ (M3 A B C) 1 A' = M3 A A' C := by
  funext i
  match i with
  | 0 => rfl
  | 1 => rfl
  | i + 2 => rfl
theorem MS3.ext {w wx : World} {B : Nat} {X : Nat → Prop} {bs : Nat → Nat} {n : Nat} {Ms Ms' : Nat → MM} (h : MS3 w B X bs n Ms wx) (he : ∀ i, i < n → Ms' i = Ms i) : MS3 w B X bs n Ms' wx := by
  obtain ⟨Ts, h1, h2, h3, h4, h5, h6⟩ := h
  exact ⟨Ts, fun i hi => by rw [he i hi]; exact h1 i hi, h2, h3, h4, h5, h6⟩
theorem MS3_2 {w wx : World} {B : Nat} {X : Nat → Prop} {bs : Nat → Nat} {A B' C A' : MM} (h : MS3 w B X bs 3 (updQ (M3 A B' C) 2 A') wx) : MS3 w B X bs 3 (M3 A B' A') wx := h.ext fun i hi => by
  match i, hi with
  | 0, _ => rfl
  | 1, _ => rfl
  | 2, _ => rfl
  | i + 3, hi => omega
def PlV (L : Ls) (e : Int) : Value := .tuple #[.agg L.cs.toArray, .int .i64 e]
set_option maxHeartbeats 4000000 in
theorem sticky_any (z0 z1 t : Int) (h0 : -9223372036854775808 ≤ z0 ∧ z0 ≤ 9223372036854775807) (h1 : -9223372036854775808 ≤ z1 ∧ z1 ≤ 9223372036854775807) (ht : -9223372036854775808 ≤ t ∧ t ≤ 9223372036854775807) (w : World) : Calls Try.prog 9 #[.int .i64 z0, .int .i64 z1, .int .i64 t] w fun e w' => e = .returned (.bool true) ∧ Below w.heap.size w w' := by
  have BR := Lib.hid (brings_any w)
  by_cases c0 : z0 < 1
  · go_enter Try.func9, Try.ntmps9
    go_wp2_with (with_reducible refine BR.out.mono ?_; rintro e w1 ⟨rfl, hb1⟩)
    go_ret
    exact ⟨rfl, hb1⟩
  by_cases c1 : 64 < z0
  · go_enter Try.func9, Try.ntmps9
    go_wp2_with (with_reducible refine BR.out.mono ?_; rintro e w1 ⟨rfl, hb1⟩)
    go_ret
    exact ⟨rfl, hb1⟩
  by_cases c2 : z1 < 1
  · go_enter Try.func9, Try.ntmps9
    go_wp2_with (with_reducible refine BR.out.mono ?_; rintro e w1 ⟨rfl, hb1⟩)
    go_ret
    exact ⟨rfl, hb1⟩
  by_cases c3 : 64 < z1
  · go_enter Try.func9, Try.ntmps9
    go_wp2_with (with_reducible refine BR.out.mono ?_; rintro e w1 ⟨rfl, hb1⟩)
    go_ret
    exact ⟨rfl, hb1⟩
  by_cases c4 : z0 = z1
  · go_enter Try.func9, Try.ntmps9
    go_wp2_with (with_reducible refine BR.out.mono ?_; rintro e w1 ⟨rfl, hb1⟩)
    go_ret
    exact ⟨rfl, hb1⟩
  by_cases c5 : t < 0
  · go_enter Try.func9, Try.ntmps9
    go_wp2_with (with_reducible refine BR.out.mono ?_; rintro e w1 ⟨rfl, hb1⟩)
    go_ret
    exact ⟨rfl, hb1⟩
  by_cases c6 : 100 < t
  · go_enter Try.func9, Try.ntmps9
    go_wp2_with (with_reducible refine BR.out.mono ?_; rintro e w1 ⟨rfl, hb1⟩)
    go_ret
    exact ⟨rfl, hb1⟩
  obtain ⟨own, rfl⟩ : ∃ n : Nat, z0 = (n : Int) := ⟨z0.toNat, by omega⟩
  obtain ⟨oth, rfl⟩ : ∃ n : Nat, z1 = (n : Int) := ⟨z1.toNat, by omega⟩
  have o1 : 1 ≤ own := by omega
  have o2 : own < 65 := by omega
  have p1 : 1 ≤ oth := by omega
  have p2 : oth < 65 := by omega
  have hne : oth ≠ own := by omega
  have c4' : ((own : Int) == (oth : Int)) = false := by simpa using c4
  have SK := Lib.hid (show ∀ k : K3, (Try.prog.info? 32).map (·.size) = some (kcs k).toArray.size from fun k => by kernel_rfl)
  have OK := Lib.hid (fun k : K3 => kcs_one k)
  have SL := Lib.hid (fun l : Ls => lsSizeA l)
  have OL := Lib.hid (fun l : Ls => l.oneA)
  have OO := Lib.hid (And.intro o1 (And.intro o2 (And.intro p1 (And.intro p2 hne))))
  go_enter Try.func9, Try.ntmps9
  go_upto_region 6 with (first
    | (with_reducible refine BR.out.mono ?_; rintro e w1 ⟨rfl, hb1⟩)
    | (with_reducible show wpList _ _ _ _ _ _; refine wpList_store_newW rfl 32 (.tmp 7) (.tmp 46) rfl 32 _ (kcs tS).toArray (by with_unfolding_all rfl) (by with_unfolding_all rfl) (SK.out tS) rfl (OK.out tS) ?_))
  obtain ⟨w2, hw2⟩ : ∃ x, x = w1.alloc (.cells (kcs tS).toArray 32) := ⟨_, rfl⟩
  obtain ⟨g7, hg7⟩ : ∃ x, x = w1.heap.size := ⟨_, rfl⟩
  rw [← hw2, ← hg7]
  have b2 : Below w.heap.size w w2 := hb1.trans (by rw [hw2]; exact (Below.refl _ _).alloc hb1.size _)
  have N2 := Lib.hid (show w2.heap[g7]? = some (.cells (kcs tS).toArray 32 (0, 0)) by rw [hw2, hg7]; exact heap_alloc_new _ _)
  have S2 := Lib.hid (show ∀ bs Ms, MS3 w w.heap.size (fun q => q = g7) bs 0 Ms w2 from fun bs Ms => MS3.none b2 (Nat.le_refl _) fun q hq => by rw [hq]; exact lt_of_rowK N2.out)
  clear hw2 hg7 b2 hb1 BR
  go_upto_region 7 with fail
  obtain ⟨w3, hw3⟩ : ∃ x, x = w2.alloc (.cells Try.zeroCells70 70) := ⟨_, rfl⟩
  obtain ⟨w4, hw4⟩ : ∃ x, x = w3.alloc (.cells Try.zeroCells70 70) := ⟨_, rfl⟩
  obtain ⟨w5, hw5⟩ : ∃ x, x = w4.alloc (.cells Try.zeroCells70 70) := ⟨_, rfl⟩
  obtain ⟨g10, hg10⟩ : ∃ g, g = w2.heap.size + 1 + 1 := ⟨_, rfl⟩
  obtain ⟨g9, hg9⟩ : ∃ g, g = w2.heap.size + 1 := ⟨_, rfl⟩
  obtain ⟨g8, hg8⟩ : ∃ g, g = w2.heap.size := ⟨_, rfl⟩
  have S5 := Lib.hid (show MS3 w w.heap.size (fun q => q = g7) (N3 g8 g9 g10) 3 (M3 M0 M0 M0) w5 from by
    rw [hw5, hw4, hw3]
    refine (((S2.out _ _).new ?_ rfl).new ?_ rfl).new ?_ rfl
    · exact hg8
    · show g9 = _
      rw [hg9]; simp
    · show g10 = _
      rw [hg10]; simp)
  have b5 : Below w2.heap.size w2 w5 := by
    rw [hw5, hw4, hw3]
    exact (((Below.refl _ _).alloc (Nat.le_refl _) _).alloc (by simp) _).alloc (by simp; omega) _
  have N5 := Lib.hid ((b5.block g7 (lt_of_rowK N2.out)).trans N2.out)
  rw [← hg10, ← hg9, ← hg8, ← hw3, ← hw4, ← hw5]
  have AD0 := Lib.hid (ms_add S5.out (i := 0) (by decide) tS wf_tS (own : Int) 0 rfl (by show ([] : List Ls).length ≤ 1000; decide))
  rw [show N3 g8 g9 g10 0 = g8 from rfl, show M3 M0 M0 M0 0 = M0 from rfl, M3_0, (ms_ad o1 o2).1, (ms_ad o1 o2).2] at AD0
  have K5 := box_at N5.out
  clear hg10 hg9 hg8 hw3 hw4 hw5 b5 S2
  go_upto_region 8 with (first
    | ((with_reducible show wpList _ _ _ _ _ _); refine wpList_load_allW rfl 32 (.tmp 7) rfl ⟨g7, 0, none⟩ rfl (kcs tS) _ K5 Try.underlying32 rfl (tkSize _) ?_)
    | ((with_reducible refine AD0.out.mono ?_); rintro e w6 ⟨rfl, hs6, hk6⟩))
  have N6 := Lib.hid ((hk6.keep g7 rfl).trans N5.out)
  have AD1 := Lib.hid (ms_add hs6 (i := 1) (by decide) tS wf_tS (own : Int) 0 rfl (by show ([] : List Ls).length ≤ 1000; decide))
  rw [show N3 g8 g9 g10 1 = g9 from rfl, show M3 (MS own 0) M0 M0 1 = M0 from rfl, M3_1, (ms_ad o1 o2).1, (ms_ad o1 o2).2] at AD1
  have K6 := box_at N6.out
  clear hs6 hk6 AD0 K5
  go_upto_region 9 with (first
    | ((with_reducible show wpList _ _ _ _ _ _); refine wpList_load_allW rfl 32 (.tmp 7) rfl ⟨g7, 0, none⟩ rfl (kcs tS) _ K6 Try.underlying32 rfl (tkSize _) ?_)
    | ((with_reducible refine AD1.out.mono ?_); rintro e w7 ⟨rfl, hs7, hk7⟩))
  have N7 := Lib.hid ((hk7.keep g7 rfl).trans N6.out)
  have AD2 := Lib.hid (ms_add hs7 (i := 2) (by decide) tS wf_tS (own : Int) 0 rfl (by show ([] : List Ls).length ≤ 1000; decide))
  rw [show N3 g8 g9 g10 2 = g10 from rfl, show M3 (MS own 0) (MS own 0) M0 2 = M0 from rfl, (ms_ad o1 o2).1, (ms_ad o1 o2).2] at AD2
  have K7 := box_at N7.out
  clear hs7 hk7 AD1 K6
  go_upto_region 10 with (first
    | ((with_reducible show wpList _ _ _ _ _ _); refine wpList_load_allW rfl 32 (.tmp 7) rfl ⟨g7, 0, none⟩ rfl (kcs tS) _ K7 Try.underlying32 rfl (tkSize _) ?_)
    | ((with_reducible refine AD2.out.mono ?_); rintro e w8 ⟨rfl, hs8, hk8⟩))
  have N8 := Lib.hid ((hk8.keep g7 rfl).trans N7.out)
  have htw : i64wf t := WalkArith.wf_i64 ⟨by omega, by omega⟩
  have EX0 := Lib.hid (ms_expire (MS3_2 hs8) (i := 0) (by decide) t htw (by show ([] : List Ls).length ≤ 1000; decide))
  rw [show N3 g8 g9 g10 0 = g8 from rfl, show M3 (MS own 0) (MS own 0) (MS own 0) 0 = MS own 0 from rfl, M3_0, ms_ex o1 o2 t (by omega)] at EX0
  obtain ⟨MA, hMA⟩ : ∃ MA, MA = if 5 ≤ t then MS 0 t else MS own 0 := ⟨_, rfl⟩
  rw [← hMA] at EX0
  have hMA1 : MA.E = [] ∧ MA.giv = 0 := by rw [hMA]; split <;> exact ⟨rfl, rfl⟩
  have hPA : MA.plE (oth : Int) 1 = if 5 ≤ t then 0 else 4 := by
    rw [hMA]
    split
    · rw [(ms_pl t p1 p2).1, if_pos (.inr rfl)]
    · rw [(ms_pl 0 p1 p2).1, if_neg (by omega)]
  have hPC : MA.plE (own : Int) 1 = 0 ∧ (MA.plL (own : Int) 1 t).key = tS := by
    rw [hMA]
    split
    · exact ⟨by rw [(ms_pl t o1 o2).1, if_pos (.inr rfl)], (ms_pl t o1 o2).2 t (.inr rfl)⟩
    · exact ⟨by rw [(ms_pl 0 o1 o2).1, if_pos (.inl rfl)], (ms_pl 0 o1 o2).2 t (.inl rfl)⟩
  have HMA := Lib.hid hMA
  have HMA1 := Lib.hid hMA1
  have HPC := Lib.hid hPC
  have HPA := Lib.hid hPA
  clear hs8 hk8 AD2 K7 hMA hMA1 hPC hPA
  go_upto_region 11 with (first
    | ((with_reducible refine EX0.out.mono ?_); rintro e w9 ⟨v9, rfl, hs9, hk9⟩))
  have N9 := Lib.hid ((hk9.keep g7 rfl).trans N8.out)
  have PA := Lib.hid (ms_poll hs9 (i := 0) (by decide) (oth : Int) 1 t (by rw [show M3 MA (MS own 0) (MS own 0) 0 = MA from rfl, HMA1.out.1]; decide) (by rw [show M3 MA (MS own 0) (MS own 0) 0 = MA from rfl, HMA1.out.2]; decide) (by rw [show M3 MA (MS own 0) (MS own 0) 0 = MA from rfl, HMA1.out.2]; decide) (by omega) (by omega))
  rw [show N3 g8 g9 g10 0 = g8 from rfl, show M3 MA (MS own 0) (MS own 0) 0 = MA from rfl, M3_0] at PA
  obtain ⟨LA, hLA⟩ : ∃ L, L = MA.plL (oth : Int) 1 t := ⟨_, rfl⟩
  obtain ⟨MA2, hMA2⟩ : ∃ M, M = MA.pl (oth : Int) 1 t := ⟨_, rfl⟩
  obtain ⟨e0, he0⟩ : ∃ e, e = MA.plE (oth : Int) 1 := ⟨_, rfl⟩
  rw [← hLA, ← hMA2, ← he0] at PA
  have HE0 := Lib.hid (he0.trans HPA.out)
  clear hs9 hk9 EX0 hLA hMA2 he0
  go_upto_region 12 with (first
    | ((with_reducible refine PA.out.mono ?_); rintro e w10 ⟨rfl, hs10, hk10⟩)
    | (with_reducible show wpList _ _ _ _ _ _; refine wpList_store_newW rfl 80 (.tmp 11) (.tmp 62) rfl 80 _ LA.cs.toArray (by with_unfolding_all rfl) (by with_unfolding_all rfl) (SL.out LA) rfl (OL.out LA) ?_))
  obtain ⟨w11, hw11⟩ : ∃ x, x = w10.alloc (.cells LA.cs.toArray 80) := ⟨_, rfl⟩
  have b11 : Below w10.heap.size w10 w11 := by rw [hw11]; exact (Below.refl _ _).alloc (Nat.le_refl _) _
  have n10 := (hk10.keep g7 rfl).trans N9.out
  have N11 := Lib.hid ((b11.block g7 (lt_of_rowK n10)).trans n10)
  have S11 := Lib.hid (hs10.below b11)
  rw [← hw11]
  have LO := Lib.hid (ms_lose S11.out (i := 1) (by decide) (own : Int) 0 rfl (by show ([] : List Ls).length ≤ 1000; decide))
  rw [show N3 g8 g9 g10 1 = g9 from rfl, show M3 MA2 (MS own 0) (MS own 0) 1 = MS own 0 from rfl, M3_1, ms_lo o1 o2] at LO
  clear hs10 hk10 PA n10 b11 hw11
  go_upto_region 13 with (first
    | ((with_reducible refine LO.out.mono ?_); rintro e w12 ⟨v12, rfl, hs12, hk12⟩))
  have N12 := Lib.hid ((hk12.keep g7 rfl).trans N11.out)
  have PB := Lib.hid (ms_poll hs12 (i := 1) (by decide) (oth : Int) 1 0 (by show ([] : List Ls).length ≤ 256; decide) (by show (0 : Int) ≤ 0; decide) (by show (0 : Int) < _; decide) (by decide) (by decide))
  rw [show N3 g8 g9 g10 1 = g9 from rfl, show M3 MA2 (MS 0 0) (MS own 0) 1 = MS 0 0 from rfl, M3_1, (ms_pl 0 p1 p2).1, if_pos (.inr rfl)] at PB
  obtain ⟨LB, hLB⟩ : ∃ L, L = (MS 0 0).plL (oth : Int) 1 0 := ⟨_, rfl⟩
  obtain ⟨MB2, hMB2⟩ : ∃ M, M = (MS 0 0).pl (oth : Int) 1 0 := ⟨_, rfl⟩
  rw [← hLB, ← hMB2] at PB
  clear hs12 hk12 LO hLB hMB2
  go_upto_region 14 with (first
    | ((with_reducible refine PB.out.mono ?_); rintro e w13 ⟨rfl, hs13, hk13⟩)
    | (with_reducible show wpList _ _ _ _ _ _; refine wpList_store_newW rfl 80 (.tmp 13) (.tmp 69) rfl 80 _ LB.cs.toArray (by with_unfolding_all rfl) (by with_unfolding_all rfl) (SL.out LB) rfl (OL.out LB) ?_))
  obtain ⟨w14, hw14⟩ : ∃ x, x = w13.alloc (.cells LB.cs.toArray 80) := ⟨_, rfl⟩
  have b14 : Below w13.heap.size w13 w14 := by rw [hw14]; exact (Below.refl _ _).alloc (Nat.le_refl _) _
  have n13 := (hk13.keep g7 rfl).trans N12.out
  have N14 := Lib.hid ((b14.block g7 (lt_of_rowK n13)).trans n13)
  have S14 := Lib.hid (hs13.below b14)
  rw [← hw14]
  have EX2 := Lib.hid (ms_expire S14.out (i := 2) (by decide) t htw (by show ([] : List Ls).length ≤ 1000; decide))
  rw [show N3 g8 g9 g10 2 = g10 from rfl, show M3 MA2 MB2 (MS own 0) 2 = MS own 0 from rfl, ms_ex o1 o2 t (by omega), ← HMA.out] at EX2
  clear hs13 hk13 PB n13 b14 hw14
  go_upto_region 15 with (first
    | ((with_reducible refine EX2.out.mono ?_); rintro e w15 ⟨v15, rfl, hs15, hk15⟩))
  have N15 := Lib.hid ((hk15.keep g7 rfl).trans N14.out)
  have PC := Lib.hid (ms_poll (MS3_2 hs15) (i := 2) (by decide) (own : Int) 1 t (by rw [show M3 MA2 MB2 MA 2 = MA from rfl, HMA1.out.1]; decide) (by rw [show M3 MA2 MB2 MA 2 = MA from rfl, HMA1.out.2]; decide) (by rw [show M3 MA2 MB2 MA 2 = MA from rfl, HMA1.out.2]; decide) (by omega) (by omega))
  rw [show N3 g8 g9 g10 2 = g10 from rfl, show M3 MA2 MB2 MA 2 = MA from rfl, HPC.out.1] at PC
  obtain ⟨LC, hLC⟩ : ∃ L, L = MA.plL (own : Int) 1 t := ⟨_, rfl⟩
  rw [← hLC] at PC
  have hLK : LC.key = tS := by rw [hLC]; exact HPC.out.2
  have HLK := Lib.hid hLK
  clear hs15 hk15 EX2 hLC hLK
  go_upto_region 16 with (first
    | ((with_reducible refine PC.out.mono ?_); rintro e w16 ⟨rfl, hs16, hk16⟩)
    | (with_reducible show wpList _ _ _ _ _ _; refine wpList_store_newW rfl 80 (.tmp 15) (.tmp 77) rfl 80 _ LC.cs.toArray (by with_unfolding_all rfl) (by with_unfolding_all rfl) (SL.out LC) rfl (OL.out LC) ?_))
  obtain ⟨w17, hw17⟩ : ∃ x, x = w16.alloc (.cells LC.cs.toArray 80) := ⟨_, rfl⟩
  obtain ⟨g17, hg17⟩ : ∃ x, x = w16.heap.size := ⟨_, rfl⟩
  have b17 : Below w16.heap.size w16 w17 := by rw [hw17]; exact (Below.refl _ _).alloc (Nat.le_refl _) _
  have n16 := (hk16.keep g7 rfl).trans N15.out
  have n17 : w17.heap[g17]? = some (.cells LC.cs.toArray 80 (0, 0)) := by rw [hw17, hg17]; exact heap_alloc_new _ _
  have KX : ∀ j v, (kcs tS)[j]? = some v → w17.cell? ((⟨g17, 1, none⟩ : Addr).add j) = some v := fun j v hj => by
    have h := box_at n17 (1 + j) v (by
      rw [← HLK.out] at hj
      match j, hj with
      | 0, hj => exact hj
      | 1, hj => exact hj
      | 2, hj => exact hj
      | j + 3, hj => simp [kcs] at hj)
    rw [Addr.add_mid] at h ⊢
    simpa using h
  have KS := box_at ((b17.block g7 (lt_of_rowK n16)).trans n16)
  have S17 := Lib.hid (hs16.below b17)
  rw [← hw17, ← hg17]
  have htt : decide (tS = tS) = true := by decide
  clear hs16 hk16 PC n16 b17 hw17 hg17 n17
  by_cases h5 : 5 ≤ t
  · have e4 : e0 = 0 := by rw [HE0.out, if_pos h5]
    subst e4
    go_wp2_with (first
      | ((with_reducible show wpList _ _ _ _ _ _); refine wpList_loadWanted (by kernel_rfl) 32 (.tmp 93) rfl ⟨g17, 1, none⟩ rfl (kcs tS) _ KX Try.underlying32 rfl (tkSize _) ?_)
      | ((with_reducible show wpList _ _ _ _ _ _); refine wpList_loadWanted (by kernel_rfl) 32 (.tmp 7) rfl ⟨g7, 0, none⟩ rfl (kcs tS) _ KS Try.underlying32 rfl (tkSize _) ?_)
      | ((with_reducible show wpList _ _ _ _ _ _); refine wpList_teql (by kernel_rfl) (.tmp 94) (.tmp 95) _ rfl tS tS (by with_unfolding_all rfl) (by with_unfolding_all rfl) ?_; rw [htt]))
    go_ret
    exact ⟨rfl, S17.out.low⟩
  · have e4 : e0 = 4 := by rw [HE0.out, if_neg h5]
    subst e4
    go_wp2_with (first
      | ((with_reducible show wpList _ _ _ _ _ _); refine wpList_loadWanted (by kernel_rfl) 32 (.tmp 93) rfl ⟨g17, 1, none⟩ rfl (kcs tS) _ KX Try.underlying32 rfl (tkSize _) ?_)
      | ((with_reducible show wpList _ _ _ _ _ _); refine wpList_loadWanted (by kernel_rfl) 32 (.tmp 7) rfl ⟨g7, 0, none⟩ rfl (kcs tS) _ KS Try.underlying32 rfl (tkSize _) ?_)
      | ((with_reducible show wpList _ _ _ _ _ _); refine wpList_teql (by kernel_rfl) (.tmp 94) (.tmp 95) _ rfl tS tS (by with_unfolding_all rfl) (by with_unfolding_all rfl) ?_; rw [htt]))
    go_ret
    exact ⟨rfl, S17.out.low⟩
end Go.Proofs.Ytkmhbbcppjckiaa.Ma
