/- The reference's first. -/
import Derived.Test.YthebkckcnmjehaaDoorCy
import Derived.Test.YthebkckcnmjehaaDoorCe
namespace Go.Proofs.YthebkckcnmjehaaDoor
open Go Go.RowKit
set_option linter.unusedVariables false
set_option linter.unusedSimpArgs false
theorem str_extract (l : List UInt8) (a b : Nat) : (str l).extract a b = str ((l.take b).drop a) := by
  simp [str, ByteArray.ext_iff, List.drop_take]
theorem cutL_at (c : UInt8) : ∀ (l : List UInt8) (k : Nat), k < l.length → (∀ j, j < k → l.getD j 0 ≠ c) → l.getD k 0 = c → cutL c l = (l.take k, l.drop (k + 1), true)
  | [], k, h, _, _ => absurd h (Nat.not_lt_zero _)
  | b :: l, 0, _, _, h => by
    have e : b = c := h
    simp [cutL, e]
  | b :: l, k + 1, hk, h, hc => by
    have e : ¬ b = c := h 0 (by omega)
    have ih := cutL_at c l k (by simpa using hk) (fun j hj => by have := h (j + 1) (by omega); simpa using this) (by simpa using hc)
    simp [cutL, e, ih]
theorem cutL_no (c : UInt8) : ∀ (l : List UInt8), (∀ j, j < l.length → l.getD j 0 ≠ c) → cutL c l = (l, [], false)
  | [], _ => rfl
  | b :: l, h => by
    have e : ¬ b = c := h 0 (by simp)
    have ih := cutL_no c l (fun j hj => by have := h (j + 1) (by simpa using hj); simpa using this)
    simp [cutL, e, ih]
def fiRel (l : List UInt8) (c : UInt8) (i : Value) : Prop := ∃ k : Nat, i = .int .i64 (k : Int) ∧ k ≤ l.length ∧ ∀ j, j < k → l.getD j 0 ≠ c
set_option maxHeartbeats 4000000 in
theorem refFirst_any (c : UInt8) (l : List UInt8) (hl : l.length ≤ 1000000) (w : World) : Calls Tryd.prog 32 #[.string (str l), .int .u8 (c.toNat : Int)] w fun e w' =>
    e = .returned (.tuple #[.string (str (cutL c l).1), .string (str (cutL c l).2.1), .bool (cutL c l).2.2]) ∧ Below w.heap.size w w' := by
  have hs := str_size l
  have hat := str_at l
  have HAT := Lib.hid hat
  obtain ⟨R, hR⟩ : ∃ R, R = cutL c l := ⟨_, rfl⟩
  rw [← hR]
  have HRR := Lib.hid hR
  obtain ⟨S, hS⟩ : ∃ S, S = str l := ⟨_, rfl⟩
  rw [← hS] at hs HAT ⊢
  have HS := Lib.hid hS
  clear hat hS hR
  go_enter Tryd.func32, Tryd.ntmps32
  go_wp2_with fail
  go_loop [7] (fun i => fiRel l c i) (fun i => l.length - (intOf i).toNat)
  case atStart => exact ⟨0, rfl, Nat.zero_le _, fun j hj => absurd hj (Nat.not_lt_zero j)⟩
  case round =>
    obtain ⟨k, rfl, hk, hd⟩ := hrel
    have HD := Lib.hid hd
    clear hd
    have q0 : (0 : Int) ≤ (k : Int) := by omega
    by_cases hkl : k < l.length
    · have q1 : (k : Int) < (S.size : Int) := by omega
      have hks : k < S.size := by omega
      obtain ⟨b, hb⟩ : ∃ b, b = l.getD k 0 := ⟨_, rfl⟩
      have hbk : ∀ h : k < S.size, S[k]'h = b := fun h => by rw [HAT.out k h]; exact hb.symm
      have HB := Lib.hid hb
      clear hb
      by_cases e : b = c
      · have hR : R = (l.take k, l.drop (k + 1), true) := HRR.out.trans (cutL_at c l k hkl HD.out (by rw [← HB.out]; exact e))
        subst hR
        have e2 : (b.toNat : Int) = (c.toNat : Int) := by rw [e]
        have hk1 : (k : Int) + 1 ≤ (S.size : Int) := by omega
        clear e
        go_wp2_with fail
        go_quiet (fail)
        go_wp2_with fail
        go_ret3
        refine ⟨?_, below_drewN (Below.refl _ _) _⟩
        have x1 : S.extract 0 k = str (l.take k) := by rw [HS.out, str_extract, List.drop_zero]
        have x2 : S.extract (k + 1) l.length = str (l.drop (k + 1)) := by rw [HS.out, str_extract, List.take_length]
        show Ending.returned (.tuple #[.string (S.extract 0 k), .string (S.extract (k + 1) l.length), .bool true]) = _
        rw [x1, x2]
      · have e2 : ¬ (b.toNat : Int) = (c.toNat : Int) := fun h => e (UInt8.toNat_inj.1 (by omega))
        go_wp2_with fail
        go_round
        case rel => exact ⟨k + 1, by go_num, by omega, fun j hj => by
          by_cases e3 : j = k
          · rw [e3, ← HB.out]; exact e
          · exact HD.out j (by omega)⟩
        case measure => simp [intOf]; omega
    · have q1 : ¬ (k : Int) < (S.size : Int) := by omega
      obtain rfl : k = l.length := by omega
      have hR : R = (l, [], false) := HRR.out.trans (cutL_no c l HD.out)
      subst hR
      go_wp2_with fail
      go_ret3
      exact ⟨by rw [HS.out]; rfl, Below.refl _ _⟩
end Go.Proofs.YthebkckcnmjehaaDoor
