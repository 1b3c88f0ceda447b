/- The law WireOne: its walk. -/
import Derived.Test.YtgopmekigelinaaDec
import Derived.Test.YtgopmekigelinaaOpen
namespace Go.Proofs.Ytgopmekigelinaa
open Go Go.RowKit
set_option linter.unusedVariables false

theorem Rd.fr {w w' : World} {b b' : Nat} {r : Option Nat} {xs : List UInt8} {k : Nat} {err : Int} (h : Rd w b r xs k err) (hF : Fr w w' b' none) (h1 : b ≠ b') (h2 : r ≠ some b') : Rd w' b r xs k err :=
  h.keep (hF.block b h.lt h1 (by simp)) (fun g hg => hF.block g (h.rlt g hg) (fun e => h2 (by rw [hg, e])) (by simp))
theorem Rd.frw {w w' : World} {b b' : Nat} {r r' : Option Nat} {xs : List UInt8} {k : Nat} {err : Int} (h : Rd w b r xs k err) (hF : Fr w w' b' r') (h1 : b ≠ b') (h2 : r ≠ some b') (h3 : r' ≠ some b) (h4 : ∀ g, r = some g → r' ≠ some g) : Rd w' b r xs k err :=
  h.keep (hF.block b h.lt h1 (fun e => h3 e.symm)) (fun g hg => hF.block g (h.rlt g hg) (fun e => h2 (by rw [hg, e])) (fun e => h4 g hg e.symm))
theorem zag_bd {u : Nat} (h : u < 18446744073709551616) : -9223372036854775808 ≤ zag u ∧ zag u ≤ 9223372036854775807 := by unfold zag; split <;> omega

set_option maxRecDepth 100000 in
set_option maxHeartbeats 1000000 in
theorem one_long (ao : Option Addr) (c : Nat) (xs : List UInt8) (w : World) (h : 100 < xs.length) :
    Calls Try.prog 5 #[.slice ao xs.length c] w fun e w' => e = .returned (.bool true) ∧ Below w.heap.size w w' := by
  have hi : (100 : Int) < (xs.length : Int) := by omega
  go_enter Try.func5, Try.ntmps5
  go_wp2_with fail
  refine (writes_any w).mono ?_
  rintro e w0 ⟨rfl, hB0⟩
  go_wp2_with fail
  go_ret
  exact ⟨rfl, hB0⟩

set_option maxRecDepth 100000 in
set_option maxHeartbeats 1000000 in
theorem one_short (ao : Option Addr) (c : Nat) (xs : List UInt8) (w : World) (hS : Sl w (.slice ao xs.length c) xs) (hc : xs.length ≤ c) (hc2 : c ≤ 9223372036854775807) (h : xs.length ≤ 100) (n k1 : Nat) (e1 : Int) (hX : (n, k1, e1) = rn xs 0 0 18446744073709551615) :
    Calls Try.prog 5 #[.slice ao xs.length c] w fun e w' => e = .returned (.bool true) ∧ Below w.heap.size w w' := by
  have hi : (xs.length : Int) ≤ 100 := by omega
  go_enter Try.func5, Try.ntmps5
  go_wp2_with fail
  refine (writes_any w).mono ?_
  rintro e w0 ⟨rfl, hB0⟩
  have hz0 := hB0.size
  have hS0 := hS.below hB0
  have C1 := Lib.hid (read_sl hS0 (by omega))
  go_wp2_with fail
  refine C1.out.mono ?_
  rintro e w1 ⟨b1, r1, rfl, hR1, hB1, hb1, hr1⟩
  have hS1 := hS0.below hB1
  have C2 := Lib.hid (read_sl hS1 (by omega))
  clear C1
  have hz1 := hB1.size
  have hB1' := hB0.trans (hB1.mono hz0)
  go_wp2_with fail
  refine C2.out.mono ?_
  rintro e w2 ⟨b2, r2, rfl, hR2, hB2, hb2, hr2⟩
  have hl1 := hR1.lt
  have hl1r := hR1.rlt
  have hR1' := hR1.below (B := 0) hB2
  have hz2 := hB2.size
  have hB2' := hB1'.trans (hB2.mono (by omega))
  have hS2 := hS1.below hB2
  have N1 := rnum_any hR1' (by omega) 18446744073709551615 (by decide)
  rw [← hX] at N1
  have G1 := Lib.hid N1
  clear C2 N1 hS0 hS1
  go_wp2_with fail
  refine G1.out.mono ?_
  rintro e w3 ⟨rfl, hR3, hF3⟩
  dsimp only at hR3
  have hB3 := hF3.belowN hB2' (by omega) (by omega)
  have hR2' := hR2.fr hF3 (by omega) (by intro e; have := hr2 _ e; omega)
  have hz3 := hF3.size
  have N2 := rint_any hR2' (by omega)
  rw [← hX] at N2
  have G2 := Lib.hid N2
  clear N2 G1 hR1 hR1' hR2
  go_wp2_with fail
  refine G2.out.mono ?_
  rintro e w4 ⟨rfl, hR4, hF4⟩
  dsimp only at hR4
  have hB4 := hF4.belowN hB3 (by omega) (by omega)
  have hz4 := hF4.size
  have hR3' := hR3.fr hF4 (by omega) (by intro e; have := hl1r _ e; omega)
  clear G2 hR3 hR2'
  dsimp only
  go_wp2_with fail
  refine (err_any hR3').mono ?_
  rintro e w4' ⟨rfl, rfl⟩
  go_wp2_with fail
  refine (err_any hR4).mono ?_
  rintro e w4' ⟨rfl, rfl⟩
  go_wp2_with fail
  refine (left_any hR3' (by omega)).mono ?_
  rintro e w4' ⟨rfl, m1, rfl⟩
  go_wp2_with fail
  refine (left_any (hR4.drewN m1) (by omega)).mono ?_
  rintro e w4' ⟨rfl, m2, rfl⟩
  go_wp2_with fail
  have hR5 := hR3'.drewN (m1 + m2)
  have hB5 := below_drewN hB4 (m1 + m2)
  generalize w4.drewN (m1 + m2) = w5 at *
  have hz5 : w.heap.size ≤ w5.heap.size := hB5.size
  clear hR3' hR4 hB4 hS2 hB3 hB2' hB1' hF3 hF4
  refine (err_any hR5).mono ?_
  rintro e w4' ⟨rfl, rfl⟩
  by_cases he : e1 = 0
  · subst he
    obtain ⟨henc, hk1⟩ := rn_enc hX.symm
    have hn : n < 18446744073709551616 := by have := rn_lt xs 0 0 18446744073709551615; rw [← hX] at this; exact this
    have hzb := zag_bd hn
    have hv := (Wr.new w5).alloc (.cells #[.slice none 0 0] 26)
    have hw := Wr.new (w5.alloc (.cells #[.slice none 0 0] 26))
    have hBu := (hB5.alloc hz5 (.cells #[.slice none 0 0] 26)).alloc (by simp; omega) (.cells #[.slice none 0 0] 26)
    have hR6 := (hR5.alloc (.cells #[.slice none 0 0] 26)).alloc (.cells #[.slice none 0 0] 26)
    have hl5 := hR5.lt
    have hl5r := hR5.rlt
    simp only [World.size_alloc] at hv hw
    obtain ⟨w6, hw6⟩ : ∃ w6, w6 = (w5.alloc (.cells #[.slice none 0 0] 26)).alloc (.cells #[.slice none 0 0] 26) := ⟨_, rfl⟩
    have hs6 : w6.heap.size = w5.heap.size + 1 + 1 := by rw [hw6]; simp
    rw [← hw6] at hv hw hBu hR6
    have HW := Lib.hid hw6
    have HS := Lib.hid hs6
    have HX := Lib.hid hX
    have HE := Lib.hid henc
    clear hw6 hs6 hX henc
    go_wp2_with fail
    rw [← HW.out]
    refine (num_one hv _ HS.out.symm _ n rfl hn (by decide)).mono ?_
    rintro e w7 ⟨rfl, rv, hv7, hF7, hrv⟩
    have hrv' : ∀ g, rv = some g → w5.heap.size + 2 ≤ g := by
      rcases hrv with rfl | ⟨g, rfl, hg⟩
      · intro g e; cases e
      · intro g' e; cases e; have := HS.out; omega
    have hw7 := hw.fr hF7 (by omega) (by simp) (by simp) (by simp)
    have hR7 := hR6.fr hF7 (by omega) (by intro e; have := hl5r _ e; omega)
    have hB7 := hF7.belowN hBu (by have := HS.out; omega) (by omega)
    have hz7 : w5.heap.size + 2 ≤ w7.heap.size := by have := HS.out; have := hF7.size; omega
    clear hv hw hBu hR6 hrv
    go_wp2_with fail
    refine (int_one hw7 _ rfl (zag n) hzb.1 hzb.2 (by decide)).mono ?_
    rintro e w8 ⟨rfl, rw2, hw8, hF8, hrw⟩
    rw [zig_zag] at hw8
    have hv8 := hv7.fr hF8 (by omega) (by simp) (by intro e; have := hrv' _ e; omega) (by simp)
    have hR8 := hR7.fr hF8 (by omega) (by intro e; have := hl5r _ e; omega)
    have hB8 := hF8.belowN hB7 (by omega) (by omega)
    have hz8 : w5.heap.size + 2 ≤ w8.heap.size := by have := hF8.size; omega
    clear hv7 hw7 hR7 hrw
    go_wp2_with fail
    refine (at_any hR8).mono ?_
    rintro e w8' ⟨rfl, rfl⟩
    have hS8 := (hS.below hB8).front hk1 c
    have hcv := hS8.convert.1
    rw [← HE.out] at hcv
    have hel := enc_length n
    simp only [List.nil_append] at hv8 hw8
    go_wp2_with fail
    refine (bytes_any hv8 (by omega)).mono ?_
    rintro e w9 ⟨ao9, c9, rfl, hown9, hB9⟩
    have hcv9 := own_convert hown9
    have hw9 := hw8.later hB9
    have hB9' := hB8.trans (hB9.mono (by omega))
    have hz9 := hB9.size
    go_wp2_with fail
    refine (bytes_any hw9 (by omega)).mono ?_
    rintro e w10 ⟨ao10, c10, rfl, hown10, hB10⟩
    have hcv10 := own_convert hown10
    go_wp2_with fail
    go_ret
    exact ⟨rfl, hB9'.trans (hB10.mono (by omega))⟩
  · have hb : (e1 != 0) = true := by simpa using he
    obtain rfl := rn_zero hX.symm he
    have hz : zag 0 = 0 := by decide
    have L := left_any hR5 (by omega)
    rw [show rl xs k1 e1 = 0 from by simp [rl, he]] at L
    have HL := Lib.hid L
    clear L
    go_wp2_with fail
    refine HL.out.mono ?_
    rintro e w6 ⟨rfl, m6, rfl⟩
    go_wp2_with fail
    go_ret
    exact ⟨rfl, below_drewN hB5 m6⟩
theorem one_any (ao : Option Addr) (c : Nat) (xs : List UInt8) (w : World) (hS : Sl w (.slice ao xs.length c) xs) (hc : xs.length ≤ c) (hc2 : c ≤ 9223372036854775807) :
    Calls Try.prog 5 #[.slice ao xs.length c] w fun e w' => e = .returned (.bool true) ∧ Below w.heap.size w w' := by
  by_cases h : 100 < xs.length
  · exact one_long ao c xs w h
  · exact one_short ao c xs w hS hc hc2 (by omega) _ _ _ rfl
end Go.Proofs.Ytgopmekigelinaa
