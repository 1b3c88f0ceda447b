/- The reference's numbers and texts on the wire. -/
import Derived.Test.YtcjnfmlpjolfpaaWs
import Derived.Deep.RegionWith
import Derived.Deep.MidRow
namespace Go.Proofs.Ytcjnfmlpjolfpaa
open Go Go.RowKit
set_option linter.unusedVariables false

theorem wstr_app (a b : List UInt8) : str a ++ str b = str (a ++ b) := by
  apply ByteArray.ext
  simp [str]
theorem wstr_size (a : List UInt8) : (str a).size = a.length := by simp [str, ByteArray.size]
theorem cv_one (W : World) (g : Nat) (b : UInt8) (h : W.heap[g]? = some (.cells #[.int .u8 ((b.toNat : Nat) : Int)] 5 (0, 0))) : (convert 24 9 (.slice (some ⟨g, 0, none⟩) 1 1)).run Try.prog W = .ok (.string (str [b])) W :=
  run_convert_sl (n := 1) (c := 1) (ys := [b]) rfl (fun e => by cases e) (fun a ha j u hu => by
    cases ha
    match j, hu with
    | 0, hu =>
      obtain rfl : bv b = u := by simpa [bvs] using hu
      rw [Addr.add_mid, Nat.zero_add, cell_of_row W g 0 _ _ _ h]; rfl
    | j + 1, hu => simp [bvs] at hu)
set_option maxRecDepth 100000 in
set_option maxHeartbeats 1600000 in
theorem refNum_any (n : Nat) : n < 18446744073709551616 → ∀ w : World, Calls Try.prog 8 #[.int .u64 (n : Int)] w fun e w' => e = .returned (.string (str (enc n))) ∧ Below w.heap.size w w' := by
  induction n using Nat.strongRecOn with
  | _ n ih =>
    intro hn w
    by_cases h128 : n < 128
    · have hI : (n : Int) < 128 := by omega
      have hI2 : (0 : Int) ≤ (n : Int) := by omega
      have hu := u8_small h128
      obtain ⟨b, hb⟩ : ∃ b, b = UInt8.ofNat n := ⟨_, rfl⟩
      rw [← hb] at hu
      have hm : (n : Int) % 256 = (n : Int) := by omega
      have CV := cv_one (w.alloc (.cells #[.int .u8 ((b.toNat : Nat) : Int)] 5)) w.heap.size b (heap_alloc_new w _)
      rw [hu] at CV
      have HB := Lib.hid hb
      clear hb hu ih
      go_enter Try.func8, Try.ntmps8
      go_wp2_with fail
      go_ret
      refine ⟨?_, (Below.refl _ _).alloc (Nat.le_refl _) _⟩
      rw [enc_lt h128, ← HB.out]
      rfl
    · have hI : ¬ (n : Int) < 128 := by omega
      have hd : n / 128 < n := Nat.div_lt_self (by omega) (by decide)
      have hl := u8_low n
      obtain ⟨b, hb⟩ : ∃ b, b = UInt8.ofNat (n % 128 + 128) := ⟨_, rfl⟩
      rw [← hb] at hl
      have IH := fun W => ih (n / 128) hd (by omega) W
      obtain ⟨m, hm⟩ : ∃ m, m = n / 128 := ⟨_, rfl⟩
      have hmI : (n : Int) / 128 = (m : Int) := by omega
      rw [← hm] at IH
      have hen : str [b] ++ str (enc m) = str (enc n) := by rw [wstr_app, enc_ge (by omega) hn, hm, hb]; rfl
      have hes : (str (enc m)).size ≤ 10 := by rw [wstr_size]; exact enc_length m
      have hs1 : (str [b]).size = 1 := wstr_size _
      have hl2 : (n : Int) % 128 + 128 = ((b.toNat : Nat) : Int) := hl.symm
      have hb8 := b.toNat_lt
      have hA : IntKind.u8.wrap (IntKind.u64.wrap ((n : Int).tmod 128 + 128)) = ((b.toNat : Nat) : Int) := by
        rw [Int.tmod_eq_emod_of_nonneg (by omega), IntKind.wrap_u64, IntKind.wrap_u8]; omega
      have hM : IntKind.u64.wrap (m : Int) = (m : Int) := by rw [IntKind.wrap_u64]; omega
      have CV := Lib.hid (fun (W : World) (g : Nat) h => cv_one W g b h)
      have HIH := Lib.hid IH
      have HEN := Lib.hid hen
      have R0 := Lib.hid (Below.refl w.heap.size w)
      have R1 := Lib.hid (fun o => (Below.refl w.heap.size w).alloc (Nat.le_refl _) o)
      have cv1 := (CV.out (w.alloc (.cells #[.int .u8 ((b.toNat : Nat) : Int)] 5)).drew w.heap.size (heap_alloc_new w _))
      clear hb hl IH hm hen ih hd hn hl2
      go_enter Try.func8, Try.ntmps8
      go_wp2_with fail
      go_region_with (first
        | (go_at_call 8; (with_reducible refine (HIH.out w.drew).mono ?_); rintro e wA ⟨rfl, hA⟩; have bA := R0.out.drew.trans (hA.mono R0.out.drew.size); have cv2 := CV.out (wA.alloc (.cells #[.int .u8 ((b.toNat : Nat) : Int)] 5)) wA.heap.size (heap_alloc_new wA _))
        | (go_at_call 8; (with_reducible refine (HIH.out (w.alloc _).drew).mono ?_); rintro e wA ⟨rfl, hA⟩; have bA := (R1.out _).drew.trans (hA.mono (R1.out _).drew.size); have cv2 := CV.out wA w.heap.size ((hA.block w.heap.size (by simp)).trans (heap_alloc_new w _))))
      all_goals
        go_wp2_with fail
        go_ret
        first
          | exact ⟨by rw [HEN.out]; rfl, bA⟩
          | exact ⟨by rw [HEN.out]; rfl, bA.alloc bA.size _⟩
end Go.Proofs.Ytcjnfmlpjolfpaa
