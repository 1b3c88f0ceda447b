/- The law WireFails: its walk. -/
import Derived.Test.YtgopmekigelinaaRs
import Derived.Test.YtgopmekigelinaaDec
import Derived.Test.YtgopmekigelinaaOpen
namespace Go.Proofs.Ytgopmekigelinaa
open Go Go.RowKit
set_option linter.unusedVariables false

theorem dg_of_err {xs : List UInt8} {k : Nat} {e : Int} (h : e ≠ 0) : dg 10 xs k e 0 0 = (0, k, e) := by
  rw [dg, rb_err h]
  simp [h]
theorem rn_of_err {xs : List UInt8} {k most : Nat} {e : Int} (h : e ≠ 0) : rn xs k e most = (0, k, e) := by
  simp [rn, dg_of_err h]
theorem rt_of_err {xs : List UInt8} {k : Nat} {e : Int} (h : e ≠ 0) : rt xs k e = ([], k, e) := by
  unfold rt
  rw [rn_of_err h]
  exact nx_err h

set_option maxRecDepth 100000 in
set_option maxHeartbeats 1000000 in
theorem fails_out (ao : Option Addr) (c : Nat) (xs : List UInt8) (first later : Int) (w : World) (hc2 : xs.length ≤ 9223372036854775807) (h : 300 < xs.length ∨ first = 0) :
    Calls Try.prog 6 #[.slice ao xs.length c, .int .i64 first, .int .i64 later] w fun e w' => e = .returned (.bool true) ∧ Below w.heap.size w w' := by
  by_cases hl : 300 < xs.length
  · have hi : (300 : Int) < (xs.length : Int) := by omega
    go_enter Try.func6, Try.ntmps6
    go_wp2_with fail
    refine (writes_any w).mono ?_
    rintro e w0 ⟨rfl, hB0⟩
    go_wp2_with fail
    go_ret
    exact ⟨rfl, hB0⟩
  · have hi : (xs.length : Int) ≤ 300 := by omega
    have hf : (first == 0) = true := by simpa [hl] using h
    go_enter Try.func6, Try.ntmps6
    go_wp2_with fail
    refine (writes_any w).mono ?_
    rintro e w0 ⟨rfl, hB0⟩
    go_wp2_with fail
    go_ret
    exact ⟨rfl, hB0⟩

set_option maxRecDepth 100000 in
set_option maxHeartbeats 1000000 in
theorem fails_in (ao : Option Addr) (c : Nat) (xs : List UInt8) (first later : Int) (w : World) (hS : Sl w (.slice ao xs.length c) xs) (hl : xs.length ≤ 300) (hf0 : first ≠ 0) (d : UInt8) (k1 : Nat) (e1 E : Int) (hX : (d, k1, e1) = rb xs 0 0) (hE : E = fe e1 first) :
    Calls Try.prog 6 #[.slice ao xs.length c, .int .i64 first, .int .i64 later] w fun e w' => e = .returned (.bool true) ∧ Below w.heap.size w w' := by
  have hi : (xs.length : Int) ≤ 300 := by omega
  have hf : (first == 0) = false := by simpa using hf0
  have hE0 : E ≠ 0 := by
    rw [hE]; unfold fe
    split
    · exact hf0
    · assumption
  have hfe : fe E later = E := by unfold fe; rw [if_neg hE0]
  have HX := Lib.hid hX
  have HE := Lib.hid hE
  have HF := Lib.hid hfe
  have H0 := Lib.hid hE0
  clear hX hE hfe hE0 hf0
  go_enter Try.func6, Try.ntmps6
  go_wp2_with fail
  refine (writes_any w).mono ?_
  rintro e w0 ⟨rfl, hB0⟩
  have hz0 := hB0.size
  have hS0 := hS.below hB0
  have C1 := Lib.hid (read_sl hS0 (by omega))
  go_wp2_with fail
  refine C1.out.mono ?_
  rintro e w1 ⟨b1, r1, rfl, hR1, hB1, hb1, hr1⟩
  have hB1' := hB0.trans (hB1.mono hz0)
  have hz1 := hB1.size
  have N1 := rbyte_any hR1 (by omega)
  rw [← HX.out] at N1
  have G1 := Lib.hid N1
  clear N1 C1 hS0
  go_wp2_with fail
  refine G1.out.mono ?_
  rintro e w2 ⟨rfl, hR2, hF2⟩
  have hB2 := hF2.belowN hB1' (by omega) (by omega)
  have hz2 := hF2.size
  go_wp2_with fail
  refine (err_any hR2).mono ?_
  rintro e w2' ⟨rfl, rfl⟩
  go_wp2_with fail
  refine (fail_any hR2 first).mono ?_
  rintro e w3 ⟨rfl, hR3, hF3⟩
  rw [← HE.out] at hR3
  have hB3 := hF3.belowN hB2 (by omega) (by omega)
  have hz3 := hF3.size
  go_wp2_with fail
  refine (fail_any hR3 later).mono ?_
  rintro e w4 ⟨rfl, hR4, hF4⟩
  rw [HF.out] at hR4
  have hB4 := hF4.belowN hB3 (by omega) (by omega)
  have hz4 := hF4.size
  clear G1 hR1 hR2 hR3 hB1' hB2 hB3
  have T1 := rbyte_any hR4 (by omega)
  rw [rb_err H0.out] at T1
  have G2 := Lib.hid T1
  clear T1
  have want : (if e1 = 0 then first else e1) = E := HE.out.symm
  have hEb : (E != 0) = true := by simpa using H0.out
  have hq : ∀ W, (binOp BinOp.eql 29 (.agg #[.int .u8 0, .int .u8 0, .int .u8 0, .int .u8 0, .int .u8 0, .int .u8 0, .int .u8 0, .int .u8 0, .int .u8 0, .int .u8 0, .int .u8 0, .int .u8 0, .int .u8 0, .int .u8 0, .int .u8 0, .int .u8 0, .int .u8 0, .int .u8 0, .int .u8 0, .int .u8 0, .int .u8 0, .int .u8 0, .int .u8 0, .int .u8 0, .int .u8 0, .int .u8 0, .int .u8 0, .int .u8 0, .int .u8 0, .int .u8 0, .int .u8 0, .int .u8 0]) (.agg #[.int .u8 0, .int .u8 0, .int .u8 0, .int .u8 0, .int .u8 0, .int .u8 0, .int .u8 0, .int .u8 0, .int .u8 0, .int .u8 0, .int .u8 0, .int .u8 0, .int .u8 0, .int .u8 0, .int .u8 0, .int .u8 0, .int .u8 0, .int .u8 0, .int .u8 0, .int .u8 0, .int .u8 0, .int .u8 0, .int .u8 0, .int .u8 0, .int .u8 0, .int .u8 0, .int .u8 0, .int .u8 0, .int .u8 0, .int .u8 0, .int .u8 0, .int .u8 0])).run Try.prog W = .ok (.bool true) W := fun _ => by kernel_rfl
  have hz : (bvs (sm [])).toArray = #[.int .u8 0, .int .u8 0, .int .u8 0, .int .u8 0, .int .u8 0, .int .u8 0, .int .u8 0, .int .u8 0, .int .u8 0, .int .u8 0, .int .u8 0, .int .u8 0, .int .u8 0, .int .u8 0, .int .u8 0, .int .u8 0, .int .u8 0, .int .u8 0, .int .u8 0, .int .u8 0, .int .u8 0, .int .u8 0, .int .u8 0, .int .u8 0, .int .u8 0, .int .u8 0, .int .u8 0, .int .u8 0, .int .u8 0, .int .u8 0, .int .u8 0, .int .u8 0] := by kernel_rfl
  have HZ := Lib.hid hz
  clear hz
  by_cases he : e1 = 0
  all_goals
    first | rw [if_pos he] at want | rw [if_neg he] at want
    first
      | (have hb : (e1 != 0) = false := by simpa using he)
      | (have hb : (e1 != 0) = true := by simpa using he)
    clear he
    go_wp2_with fail
    refine G2.out.mono ?_
    rintro e w5 ⟨rfl, hR5, hF5⟩
    have hB5 := hF5.belowN hB4 (by omega) (by omega)
    have hz5 := hF5.size
    have T2 := rtext_any hR5 (by omega)
    rw [rt_of_err H0.out] at T2
    have G3 := Lib.hid T2
    clear T2 G2
    unfold bv
    go_wp2_with fail
    refine G3.out.mono ?_
    rintro e w6 ⟨rfl, hR6, hF6⟩
    have hB6 := hF6.belowN hB5 (by omega) (by omega)
    have hz6 := hF6.size
    have T3 := rnum_any hR6 (by omega) 5 (by decide)
    rw [rn_of_err H0.out] at T3
    have G4 := Lib.hid T3
    clear T3 G3
    rw [show str (([], k1, E) : List UInt8 × Nat × Int).1 = ⟨#[]⟩ from rfl]
    go_wp2_with fail
    refine G4.out.mono ?_
    rintro e w7 ⟨rfl, hR7, hF7⟩
    have hB7 := hF7.belowN hB6 (by omega) (by omega)
    have hz7 := hF7.size
    have T4 := rsum_any hR7 (by omega)
    rw [nx_err H0.out] at T4
    have G5 := Lib.hid T4
    clear T4 G4
    go_wp2_with fail
    refine G5.out.mono ?_
    rintro e w8 ⟨rfl, hR8, hF8⟩
    have hB8 := hF8.belowN hB7 (by omega) (by omega)
    have hz8 := hF8.size
    rw [show (bvs (sm (([], k1, E) : List UInt8 × Nat × Int).1)).toArray = #[.int .u8 0, .int .u8 0, .int .u8 0, .int .u8 0, .int .u8 0, .int .u8 0, .int .u8 0, .int .u8 0, .int .u8 0, .int .u8 0, .int .u8 0, .int .u8 0, .int .u8 0, .int .u8 0, .int .u8 0, .int .u8 0, .int .u8 0, .int .u8 0, .int .u8 0, .int .u8 0, .int .u8 0, .int .u8 0, .int .u8 0, .int .u8 0, .int .u8 0, .int .u8 0, .int .u8 0, .int .u8 0, .int .u8 0, .int .u8 0, .int .u8 0, .int .u8 0] from HZ.out]
    have T5 := left_any hR8 (by omega)
    rw [show rl xs k1 E = 0 from if_neg H0.out] at T5
    have G6 := Lib.hid T5
    clear T5 G5
    go_wp2_with fail
    refine G6.out.mono ?_
    rintro e w9 ⟨rfl, m9, rfl⟩
    have hR9 := hR8.drewN m9
    have hB9 := below_drewN hB8 m9
    go_wp2_with fail
    refine (err_any hR9).mono ?_
    rintro e w9' ⟨rfl, rfl⟩
    have T6 := end_any hR9 (by omega)
    rw [show rend xs k1 E = E from by unfold rend rl; rw [if_neg H0.out]; rfl] at T6
    have G7 := Lib.hid T6
    clear T6 G6
    go_wp2_with fail
    refine G7.out.mono ?_
    rintro e w10 ⟨rfl, m10, rfl⟩
    go_wp2_with fail
    go_ret
    exact ⟨rfl, by have := below_drewN hB9 m10; simpa using this⟩

theorem fails_any (ao : Option Addr) (c : Nat) (xs : List UInt8) (first later : Int) (w : World) (hS : Sl w (.slice ao xs.length c) xs) (hc : xs.length ≤ c) (hc2 : c ≤ 9223372036854775807) :
    Calls Try.prog 6 #[.slice ao xs.length c, .int .i64 first, .int .i64 later] w fun e w' => e = .returned (.bool true) ∧ Below w.heap.size w w' := by
  by_cases h : 300 < xs.length ∨ first = 0
  · exact fails_out ao c xs first later w (by omega) h
  · exact fails_in ao c xs first later w hS (by omega) (by omega) _ _ _ _ rfl rfl
end Go.Proofs.Ytgopmekigelinaa
