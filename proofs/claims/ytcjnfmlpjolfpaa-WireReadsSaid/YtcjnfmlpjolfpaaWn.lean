/- What a Writer's calls Len, Bytes, Num and Int leave. -/
import Derived.Test.YtcjnfmlpjolfpaaWr
import Derived.Test.YtcjnfmlpjolfpaaEnc
namespace Go.Proofs.Ytcjnfmlpjolfpaa
open Go Go.RowKit
set_option linter.unusedVariables false

theorem ret_int {k : IntKind} {a b : Int} (h : a = b) : Ending.returned (.int k a) = .returned (.int k b) := by rw [h]

theorem len_any {w : World} {b : Nat} {r : Option Nat} {xs : List UInt8} (hw : Wr w b r xs) :
    Calls Try.prog 17 #[.pointer (some ⟨b, 0, none⟩)] w fun e w' => e = .returned (.int .i64 (xs.length : Int)) ∧ w = w' := by
  obtain ⟨ao, c, h0, f0, _⟩ := hw.cell
  go_enter Try.func17, Try.ntmps17
  go_wp2
  go_ret
  exact ⟨rfl, rfl⟩

/-- One byte. -/
theorem byte_one {w : World} {b : Nat} {r : Option Nat} {xs : List UInt8} (hw : Wr w b r xs) (g : Nat) (hg : g = w.heap.size) (x : Int) (y : UInt8) (hx : x = (y.toNat : Int)) (hsz : xs.length + 1 ≤ 140737488355328) :
    Calls Try.prog 6 #[.pointer (some ⟨b, 0, none⟩), .slice (some ⟨g, 0, none⟩) 1 1] (w.alloc (.cells #[.int .u8 x] 5)) fun e w' => e = .returned (.tuple #[]) ∧ Wrote w w' b r (xs ++ [y]) := by
  subst hx hg
  refine (byte_any (hw.alloc _) (some ⟨w.heap.size, 0, none⟩) 1 1 [y] rfl (by simp) ?_ hsz).mono ?_
  · intro a ha j u hu
    cases ha
    match j, hu with
    | 0, hu =>
      simp [bvs] at hu
      subst hu
      simp [Addr.add, bv]
  · rintro e w' ⟨rfl, h⟩
    exact ⟨rfl, Wrote.trans (xs := xs) ((Fr.refl w b r).alloc _) (Or.inl rfl) h⟩

/-- Where the inner loop of Num stands. -/
def NumRel (w : World) (b : Nat) (r : Option Nat) (xs : List UInt8) (n : Nat) (u : Value) (wr : World) : Prop :=
  ∃ (m : Nat) (pre : List UInt8) (r' : Option Nat), u = .int .u64 (m : Int) ∧ m < 18446744073709551616 ∧ enc n = pre ++ enc m ∧ Wr wr b r' (xs ++ pre) ∧ Fr w wr b r ∧ (r' = r ∨ ∃ g, r' = some g ∧ w.heap.size ≤ g)

set_option maxRecDepth 100000 in
set_option maxHeartbeats 1600000 in
theorem num_one {w : World} {b : Nat} {r : Option Nat} {xs : List UInt8} (hw : Wr w b r xs) (g : Nat) (hg : g = w.heap.size) (x : Int) (n : Nat) (hx : x = (n : Int)) (hn : n < 18446744073709551616) (hsz : xs.length + 10 ≤ 140737488355328) :
    Calls Try.prog 7 #[.pointer (some ⟨b, 0, none⟩), .slice (some ⟨g, 0, none⟩) 1 1] (w.alloc (.cells #[.int .u64 x] 27)) fun e w' => e = .returned (.tuple #[]) ∧ Wrote w w' b r (xs ++ enc n) := by
  subst hx hg
  have hel := enc_length n
  go_enter Try.func7, Try.ntmps7
  go_wp2
  refine wp_loop_rounds 2 ?_
  rw [rounds_succ]
  go_wp2
  go_loopw [5] (fun u wr => NumRel w b r xs n u wr) (fun u _ => (intOf u).toNat)
  case atStart => exact ⟨n, [], r, rfl, hn, rfl, by simpa using hw.alloc _, (Fr.refl w b r).alloc _, Or.inl rfl⟩
  case round =>
    obtain ⟨m, pre, r', rfl, hm, henc, hW, hF, hr⟩ := hrel
    have hpl : pre.length + (enc m).length = (enc n).length := by rw [henc, List.length_append]
    by_cases h128 : 128 ≤ m
    · have h1 : xs.length + pre.length + 1 ≤ 140737488355328 := by
        rw [enc_ge h128 hm] at hpl; simp at hpl; omega
      have HE := Lib.hid henc
      clear hpl henc
      go_wp2_with (go_at_call 6; refine (byte_one hW _ rfl _ (UInt8.ofNat (m % 128 + 128)) (u8_low m).symm (by simpa [Nat.add_assoc] using h1)).mono ?_; rintro e w2 ⟨rfl, hW2⟩)
      go_roundw
      case rel =>
        obtain ⟨r2, w2W, w2F, w2r⟩ := hW2
        refine ⟨m / 128, pre ++ [UInt8.ofNat (m % 128 + 128)], r2, by go_num, by omega, ?_, by simpa [List.append_assoc] using w2W, hF.trans hr w2F, ?_⟩
        · rw [HE.out, enc_ge h128 hm]; simp
        · rcases w2r with rfl | ⟨g, rfl, hg⟩
          · exact hr
          · exact Or.inr ⟨g, rfl, Nat.le_trans hF.size hg⟩
      case measure => simp [intOf]; omega
    · have h1 : xs.length + pre.length + 1 ≤ 140737488355328 := by
        rw [enc_lt (by omega)] at hpl; simp at hpl; omega
      have HE := Lib.hid henc
      clear hpl henc
      go_wp2_with (go_at_call 6; refine (byte_one hW _ rfl _ (UInt8.ofNat m) (u8_small (by omega)).symm (by simpa [Nat.add_assoc] using h1)).mono ?_; rintro e w2 ⟨rfl, hW2⟩)
      rw [rounds_succ]
      go_wp2
      go_end0
      refine ⟨rfl, ?_⟩
      have := Wrote.trans (xs := xs ++ pre) hF hr hW2
      rw [HE.out, enc_lt (by omega)]
      simpa [List.append_assoc] using this

theorem i64_not_neg {n : Int} (h0 : -9223372036854775808 ≤ n) (h1 : n < 0) : bits .xor .i64 (-1) n = -1 - n := by
  show IntKind.i64.wrap ((BitVec.ofInt 64 (-1) ^^^ BitVec.ofInt 64 n).toNat : Int) = _
  have e : BitVec.ofInt 64 (-1) = BitVec.allOnes 64 := by decide
  rw [e, BitVec.allOnes_xor, BitVec.toNat_not, BitVec.toNat_ofInt]
  simp [IntKind.wrap, IntKind.bits, IntKind.signed]
  omega

theorem fold_any (n : Int) (w : World) (h0 : -9223372036854775808 ≤ n) (h1 : n ≤ 9223372036854775807) :
    Calls Try.prog 34 #[.int .i64 n] w fun e w' => e = .returned (.int .u64 (zig n : Int)) ∧ w = w' := by
  by_cases hn : n < 0
  · have hx := i64_not_neg h0 hn
    have z := zig_neg hn
    go_enter Try.func34, Try.ntmps34
    go_wp2
    all_goals (go_ret; exact ⟨ret_int (by rw [IntKind.wrap_u64, IntKind.wrap_u64, IntKind.wrap_u64]; omega), rfl⟩)
  · have z := zig_pos (show 0 ≤ n by omega)
    go_enter Try.func34, Try.ntmps34
    go_wp2
    go_ret
    exact ⟨ret_int (by omega), rfl⟩

theorem bytes_any {w : World} {b : Nat} {r : Option Nat} {xs : List UInt8} (hw : Wr w b r xs) (hsz : xs.length ≤ 140737488355328) :
    Calls Try.prog 16 #[.pointer (some ⟨b, 0, none⟩)] w fun e w' => ∃ ao c, e = .returned (.slice ao xs.length c) ∧ w'.ownsRow w.heap.size 5 1 (.slice ao xs.length c) xs.length (bvs xs) ∧ Below w.heap.size w w' := by
  obtain ⟨i0, hi, hz0, hz1, hz2⟩ := info_parts Try.info5
  obtain ⟨ax, cx, h0, f0, hown, hr⟩ := hw.cell
  have S : Src Try.prog 1 24 (.slice ax xs.length cx) xs.length (bvs xs) w := Src.any w (e' := 5) Try.underlying24 ax _ cx (bvs xs) (by rw [bvs_length, Nat.mul_one])
    (by rcases hown.2 with ⟨h, h0⟩ | ⟨g, cap, cur, h, _⟩
        · exact fun _ => h0
        · intro e; subst e; cases h)
    (by rcases hown.2 with ⟨h, h0⟩ | ⟨g, cap, cur, h, _⟩
        · intro a ha; subst ha; cases h
        · intro a ha; subst ha; cases h; exact hown.cells rfl) (bvs_one xs)
  go_enter Try.func16, Try.ntmps16
  go_wp2_with (at_builtin; refine wpList_append_own_src _ rfl (.const (.slice none 0 0)) (.tmp 6) 24 24 rfl w.heap.size 5 i0 (.int .u8 0) 1 1 Try.underlying24 hi hz0 hz1 hz2 rfl _ 0 [] rfl (World.ownsRow_nil _ _ _ _) _ xs.length (bvs xs) rfl S ?b1 ?b2 (Nat.le_refl _) ?next)
  case b1 => unfold maxLen; omega
  case b2 => omega
  case next =>
    rintro v' w1 ⟨hown1, hgrow, hat⟩
    obtain ⟨ao', c', rfl⟩ := own_slice hown1
    have hB : Below w.heap.size w w1 := (Below.refl _ _).grown hgrow (Nat.le_refl _) (fun k h => by cases h)
    clear S h0 f0 hown
    go_wp2
    go_ret
    exact ⟨ao', c', rfl, hown1, hB⟩

set_option maxRecDepth 100000 in
set_option maxHeartbeats 1600000 in
theorem int_one {w : World} {b : Nat} {r : Option Nat} {xs : List UInt8} (hw : Wr w b r xs) (g : Nat) (hg : g = w.heap.size) (n : Int) (h0 : -9223372036854775808 ≤ n) (h1 : n ≤ 9223372036854775807) (hsz : xs.length + 10 ≤ 140737488355328) :
    Calls Try.prog 9 #[.pointer (some ⟨b, 0, none⟩), .slice (some ⟨g, 0, none⟩) 1 1] (w.alloc (.cells #[.int .i64 n] 2)) fun e w' => e = .returned (.tuple #[]) ∧ Wrote w w' b r (xs ++ enc (zig n)) := by
  subst hg
  have hz := zig_lt h0 h1
  have hw1 := hw.alloc (.cells #[.int .i64 n] 2)
  go_enter Try.func9, Try.ntmps9
  go_wp2_with fail
  refine wp_loop_rounds 2 ?_
  rw [rounds_succ]
  go_wp2_with fail
  refine (fold_any n _ h0 h1).mono ?_
  rintro e w2 ⟨rfl, rfl⟩
  go_wp2_with fail
  refine (num_one hw1 _ (by simp) _ (zig n) rfl hz hsz).mono ?_
  rintro e w2 ⟨rfl, hW2⟩
  go_wp2_with fail
  rw [rounds_succ]
  go_wp2_with fail
  go_end0
  exact ⟨rfl, Wrote.trans (xs := xs) ((Fr.refl w b r).alloc _) (Or.inl rfl) hW2⟩
end Go.Proofs.Ytcjnfmlpjolfpaa
