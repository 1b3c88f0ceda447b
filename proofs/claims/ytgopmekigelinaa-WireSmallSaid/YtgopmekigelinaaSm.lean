/- The law WireSmall: its walk. -/
import Derived.Test.YtgopmekigelinaaWs
import Derived.Deep.RegionWith
import Derived.Deep.RegionHeld3
namespace Go.Proofs.Ytgopmekigelinaa
open Go Go.RowKit
set_option linter.unusedVariables false

theorem u64_ones {x : Int} (h0 : 0 ≤ x) (h1 : x < 18446744073709551616) : bits .xor .u64 x 18446744073709551615 = 18446744073709551615 - x := by
  show IntKind.u64.wrap ((BitVec.ofInt 64 x ^^^ BitVec.ofInt 64 18446744073709551615).toNat : Int) = _
  have e : BitVec.ofInt 64 18446744073709551615 = BitVec.allOnes 64 := by decide
  rw [e, BitVec.xor_allOnes, BitVec.toNat_not, BitVec.toNat_ofInt, IntKind.wrap_u64]
  simp
  omega
theorem u64_none {x : Int} (h0 : 0 ≤ x) (h1 : x < 18446744073709551616) : bits .xor .u64 x 0 = x := by
  rw [u64_xor x 0 h0 h1 (by decide) (by decide)]
  simp; omega
theorem zx {a : Int} (h0 : -9223372036854775808 ≤ a) (h1 : a ≤ 9223372036854775807) :
    bits BinOp.xor IntKind.u64 (IntKind.u64.wrap (IntKind.u64.wrap a * 2)) (IntKind.u64.wrap (a / 9223372036854775808)) = (zig a : Int) := by
  simp only [IntKind.wrap_u64]
  by_cases h : a < 0
  · have z := zig_neg h
    rw [show a / 9223372036854775808 % 18446744073709551616 = 18446744073709551615 by omega, u64_ones (by omega) (by omega)]
    omega
  · have z := zig_pos (show 0 ≤ a by omega)
    rw [show a / 9223372036854775808 % 18446744073709551616 = 0 by omega, u64_none (by omega) (by omega)]
    omega

/-- Where the counting of a number's bytes stands. -/
def CntRel (X : Nat) (u c : Value) : Prop := ∃ m n : Nat, u = .int .u64 (m : Int) ∧ c = .int .i64 (n : Int) ∧ m < 18446744073709551616 ∧ n + (enc m).length = (enc X).length + 1

set_option maxRecDepth 100000 in
set_option maxHeartbeats 1000000 in
theorem small_walk (a b : Int) (w : World) (ha0 : -9223372036854775808 ≤ a) (ha1 : a ≤ 9223372036854775807) (hb0 : -9223372036854775808 ≤ b) (hb1 : b ≤ 9223372036854775807) :
    Calls Try.prog 8 #[.int .i64 a, .int .i64 b] w fun e w' => e = .returned (.bool true) ∧ Below w.heap.size w w' := by
  go_enter Try.func8, Try.ntmps8
  go_wp2_with fail
  refine (writes_any w).mono ?_
  rintro e w0 ⟨rfl, hB0⟩
  have hz0 := hB0.size
  have hv := ((Wr.new w0).alloc (.cells #[.slice none 0 0] 26)).alloc (.cells #[.slice none 0 0] 26)
  have hw := (Wr.new (w0.alloc (.cells #[.slice none 0 0] 26))).alloc (.cells #[.slice none 0 0] 26)
  have hu := Wr.new ((w0.alloc (.cells #[.slice none 0 0] 26)).alloc (.cells #[.slice none 0 0] 26))
  have hBu := ((hB0.alloc hz0 (.cells #[.slice none 0 0] 26)).alloc (by simp; omega) (.cells #[.slice none 0 0] 26)).alloc (by simp; omega) (.cells #[.slice none 0 0] 26)
  simp only [World.size_alloc] at hv hw hu
  go_wp2_with fail
  obtain ⟨w1, hw1⟩ : ∃ w1, w1 = ((w0.alloc (.cells #[.slice none 0 0] 26)).alloc (.cells #[.slice none 0 0] 26)).alloc (.cells #[.slice none 0 0] 26) := ⟨_, rfl⟩
  have hs1 : w1.heap.size = w0.heap.size + 1 + 1 + 1 := by rw [hw1]; simp
  rw [← hw1] at hv hw hu hBu ⊢
  have HS := Lib.hid hs1
  clear hw1 hs1
  refine (int_one hv _ HS.out.symm a ha0 ha1 (by decide)).mono ?_
  rintro e w2 ⟨rfl, rv, hv2, hF2, hrv⟩
  have hrv' : ∀ g, rv = some g → w0.heap.size + 3 ≤ g := by
    rcases hrv with rfl | ⟨g, rfl, hg⟩
    · intro g e; cases e
    · intro g' e; cases e; have := HS.out; omega
  have hw2 := hw.fr hF2 (by omega) (by simp) (by simp) (by simp)
  have hu2 := hu.fr hF2 (by omega) (by simp) (by simp) (by simp)
  have hB2 := hF2.belowN hBu (by have := HS.out; omega) (by omega)
  have hz2 : w0.heap.size + 3 ≤ w2.heap.size := by have := HS.out; have := hF2.size; omega
  clear hv hw hu hBu hrv
  go_wp2_with fail
  refine (int_one hw2 _ rfl b hb0 hb1 (by decide)).mono ?_
  rintro e w3 ⟨rfl, rv2, hw3, hF3, hrw⟩
  have hv3 := hv2.fr hF3 (by omega) (by simp) (by intro e; have := hrv' _ e; omega) (by simp)
  have hu3 := hu2.fr hF3 (by omega) (by simp) (by simp) (by simp)
  have hB3 := hF3.belowN hB2 (by omega) (by omega)
  have hz3 : w0.heap.size + 3 ≤ w3.heap.size := by have := hF3.size; omega
  have hrw' : ∀ g, rv2 = some g → w0.heap.size + 3 ≤ g := by
    rcases hrw with rfl | ⟨g, rfl, hg⟩
    · intro g e; cases e
    · intro g' e; cases e; omega
  clear hv2 hw2 hu2 hrw
  have hxa := zx ha0 ha1
  have hza := zig_lt ha0 ha1
  have N := num_one hu3 w3.heap.size rfl _ (zig a) rfl hza (by decide)
  have HN := Lib.hid N
  clear N
  go_wp2_with fail
  refine HN.out.mono ?_
  rintro e w4 ⟨rfl, ru, hu4, hF4, hru⟩
  have hv4 := hv3.fr hF4 (by omega) (by simp) (by intro e; have := hrv' _ e; omega) (by simp)
  have hw4 := hw3.fr hF4 (by omega) (by simp) (by intro e; have := hrw' _ e; omega) (by simp)
  have hB4 := hF4.belowN hB3 (by omega) (by omega)
  simp only [List.nil_append] at hu4 hv4 hw4
  clear hv3 hw3 hu3 HN hxa
  go_wp2_with fail
  go_loop [8, 9] (fun u c => CntRel (zig a) u c) (fun u _ => (intOf u).toNat)
  case atStart => exact ⟨zig a, 1, rfl, rfl, hza, by omega⟩
  case round =>
    obtain ⟨m, n, rfl, rfl, hm, hn⟩ := hrel
    have hml := enc_length (zig a)
    by_cases h128 : 128 ≤ m
    · have h1 := enc_ge h128 hm
      have HE := Lib.hid hn
      have H1 := Lib.hid h1
      have hn10 : n ≤ 11 := by omega
      clear hn h1
      go_wp2_with fail
      go_round
      case rel => exact ⟨m / 128, n + 1, by go_num, by go_num, by omega, by have := HE.out; rw [H1.out] at this; simp at this ⊢; omega⟩
      case measure => simp [intOf]; omega
    · obtain rfl : n = (enc (zig a)).length := by rw [enc_lt (by omega)] at hn; simpa using hn
      clear hn
      have hxb := zx hb0 hb1
      have hzb := zig_lt hb0 hb1
      go_wp2_with fail
      clear hxb
      go_loop [10, 11] (fun u c => CntRel (zig b) u c) (fun u _ => (intOf u).toNat)
      case atStart => exact ⟨zig b, 1, rfl, rfl, hzb, by omega⟩
      case round =>
        obtain ⟨m2, n2, rfl, rfl, hm2, hn2⟩ := hrel
        have hml2 := enc_length (zig b)
        by_cases h1282 : 128 ≤ m2
        · have h1 := enc_ge h1282 hm2
          have HE := Lib.hid hn2
          have H1 := Lib.hid h1
          have hn10 : n2 ≤ 11 := by omega
          clear hn2 h1
          go_wp2_with fail
          go_round
          case rel => exact ⟨m2 / 128, n2 + 1, by go_num, by go_num, by omega, by have := HE.out; rw [H1.out] at this; simp at this ⊢; omega⟩
          case measure => simp [intOf]; omega
        · obtain rfl : n2 = (enc (zig b)).length := by rw [enc_lt (by omega)] at hn2; simpa using hn2
          clear hn2
          generalize enc (zig a) = ea at *
          generalize enc (zig b) = eb at *
          go_wp2_with fail
          generalize w0.heap.size + 1 = p1 at hw4 hu4 ⊢
          generalize p1 + 1 = p2 at hu4 ⊢
          go_region_with (first
            | (go_at_call_of 21 (Value.pointer (some ⟨w0.heap.size, 0, none⟩)); refine (len_any hv4.drew).mono ?_; rintro e w5 ⟨rfl, rfl⟩)
            | (go_at_call_of 21 (Value.pointer (some ⟨p1, 0, none⟩)); refine (len_any hw4.drew).mono ?_; rintro e w5 ⟨rfl, rfl⟩)
            | (go_at_call_of 20 (Value.pointer (some ⟨p2, 0, none⟩)); refine (bytes_any hu4.drew (by omega)).mono ?_; rintro e w5 ⟨ao5, c5, rfl, hown5, hB5⟩; have hcv5 := own_convert hown5; have hv5 := hv4.drew.later hB5)
            | (go_at_call_of 20 (Value.pointer (some ⟨w0.heap.size, 0, none⟩)); refine (bytes_any hv5 (by omega)).mono ?_; rintro e w6 ⟨ao6, c6, rfl, hown6, hB6⟩; have hcv6 := own_convert hown6; have hcv5' := own_convert (own_later hown5 hB6 (Nat.le_refl _))))
          all_goals
            go_wp2_with fail
            go_ret
            have z4 : w.heap.size ≤ w4.drew.heap.size := by have := hB4.size; simpa using this
            exact ⟨rfl, (hB4.drew.trans (hB5.mono z4)).trans (hB6.mono (Nat.le_trans z4 hB5.size))⟩
end Go.Proofs.Ytgopmekigelinaa
