/- The reference's eight bytes of a number (foliotref06.eight). -/
import Derived.Test.YtgbmkolpdnenlaaMa
import Derived.Test.YtgbmkolpdnenlaaDo
namespace Go.Proofs.Ytgbmkolpdnenlaa.Dk
open Go Go.RowKit
set_option linter.unusedVariables false
set_option linter.unusedSimpArgs false
theorem wstr_app (a b : List UInt8) : str a ++ str b = str (a ++ b) := by
  apply ByteArray.ext
  simp [str]
theorem wstr_size (a : List UInt8) : (str a).size = a.length := by simp [str, ByteArray.size]
theorem cv_one (W : World) (g : Nat) (b : UInt8) (h : W.heap[g]? = some (.cells #[.int .u8 ((b.toNat : Nat) : Int)] 5 (0, 0))) : (convert 44 9 (.slice (some ⟨g, 0, none⟩) 1 1)).run Try.prog W = .ok (.string (str [b])) W :=
  (run_convert_sl (n := 1) (c := 1) (ys := [b]) rfl (fun e => by cases e) (fun a ha j u hu => by
    cases ha
    match j, hu with
    | 0, hu =>
      obtain rfl : bv b = u := by simpa [bvs] using hu
      rw [Addr.add_mid, Nat.zero_add, cell_of_row W g 0 _ _ _ h]; rfl
    | j + 1, hu => simp [bvs] at hu))
def EiRel (n : Nat) (w : World) (x v u : Value) (wr : World) : Prop := ∃ i : Nat, u = .int .i64 (i : Int) ∧ i ≤ 8 ∧ x = .int .u64 ((n / 256 ^ i : Nat) : Int) ∧ v = .string (str (leTo n i)) ∧ Below w.heap.size w wr
set_option maxRecDepth 100000 in
set_option maxHeartbeats 1600000 in
theorem eight_any (n : Nat) (hn : n < 18446744073709551616) (w : World) : Calls Try.prog 39 #[.int .u64 (n : Int)] w fun e w' => e = .returned (.string (str (leTo n 8))) ∧ Below w.heap.size w w' := by
  go_enter Try.func39, Try.ntmps39
  go_wp2_with fail
  go_loopw [0, 3, 4] (fun x v u wr => EiRel n w x v u wr) (fun _ _ u _ => 8 - (intOf u).toNat)
  case atStart => exact ⟨0, rfl, Nat.zero_le _, by simp, rfl, Below.refl _ _⟩
  case round =>
    obtain ⟨wr0, rfl⟩ : ∃ wr0 : World, wr0 = wr := ⟨_, rfl⟩
    obtain ⟨i, rfl, hi, rfl, rfl, hBr⟩ := hrel
    by_cases hi4 : i < 8
    · have hdd : n / 256 ^ (i + 1) = n / 256 ^ i / 256 := by rw [Nat.pow_succ, Nat.div_div_eq_div_mul]
      have hle : leTo n (i + 1) = leTo n i ++ [UInt8.ofNat (n / 256 ^ i)] := rfl
      have hbl : n / 256 ^ i < 18446744073709551616 := Nat.lt_of_le_of_lt (Nat.div_le_self _ _) hn
      have hs1 : (str (leTo n i)).size = i := by rw [wstr_size, leTo_length]
      have ii4 : (i : Int) < 8 := by omega
      generalize leTo n i = L at *
      generalize n / 256 ^ i = y at *
      have hy8 : (y : Int) % 256 = (((UInt8.ofNat y).toNat : Nat) : Int) := by rw [UInt8.toNat_ofNat']; omega
      obtain ⟨b, hb⟩ : ∃ b, b = UInt8.ofNat y := ⟨_, rfl⟩
      rw [← hb] at hy8 hle
      have hs2 : (str [b]).size = 1 := wstr_size _
      have CV := cv_one (wr0.alloc (.cells #[.int .u8 ((b.toNat : Nat) : Int)] 5)) wr0.heap.size b (heap_alloc_new wr0 _)
      have HDD := Lib.hid hdd
      have HLE := Lib.hid hle
      have HBR := Lib.hid hBr
      have hb8 := b.toNat_lt
      have HBL := Lib.hid hbl
      clear hdd hle hBr hb hn hbl
      go_wp2_with fail
      exact ⟨⟨i + 1, by go_num, by omega, by rw [HDD.out]; have := HBL.out; simp; rw [IntKind.wrap_u64]; omega, by rw [HLE.out, wstr_app], HBR.out.alloc HBR.out.size _⟩, by simp [intOf]; omega⟩
    · obtain rfl : i = 8 := by omega
      have HBR := Lib.hid hBr
      rw [show ((8 : Nat) : Int) = 8 from rfl]
      generalize n / 256 ^ 8 = y at *
      clear hBr hn
      go_wp2_with fail
      go_ret
      exact ⟨rfl, HBR.out⟩
end Go.Proofs.Ytgbmkolpdnenlaa.Dk
