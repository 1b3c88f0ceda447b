/- The reference's least, most, number. -/
import Derived.Test.YthebkckcnmjehaaDoorCd
import Derived.Test.YthebkckcnmjehaaDoorCq
namespace Go.Proofs.YthebkckcnmjehaaDoor
open Go Go.RowKit
set_option linter.unusedVariables false
set_option linter.unusedSimpArgs false
def loK (k : Nat) : Nat := if k = 2 ∨ k = 3 then 1 else 0
def hiK (k : Nat) : Nat := if k = 0 then 59 else if k = 1 then 23 else if k = 2 then 31 else if k = 3 then 12 else 6
theorem refLeast_any (k : Nat) (hk : k < 5) (w : World) : Calls Tryd.prog 34 #[.int .i64 (k : Int)] w fun e w' => e = .returned (.int .i64 (loK k : Int)) ∧ w' = w := by
  obtain rfl | rfl | rfl | rfl | rfl : k = 0 ∨ k = 1 ∨ k = 2 ∨ k = 3 ∨ k = 4 := by omega
  all_goals
    go_enter Tryd.func34, Tryd.ntmps34
    go_wp2
    go_ret
    exact ⟨rfl, rfl⟩
theorem refMost_any (k : Nat) (hk : k < 5) (w : World) : Calls Tryd.prog 35 #[.int .i64 (k : Int)] w fun e w' => e = .returned (.int .i64 (hiK k : Int)) ∧ w' = w := by
  obtain rfl | rfl | rfl | rfl | rfl : k = 0 ∨ k = 1 ∨ k = 2 ∨ k = 3 ∨ k = 4 := by omega
  all_goals
    go_enter Tryd.func35, Tryd.ntmps35
    go_wp2
    go_ret
    exact ⟨rfl, rfl⟩
def pnI (o : Option Nat) : Int := match o with
  | some n => (n : Int)
  | none => -1
set_option maxHeartbeats 4000000 in
theorem refNumber_any (l : List UInt8) (hl : l.length ≤ 9223372036854775807) (w : World) : Calls Tryd.prog 33 #[.string (str l)] w fun e w' => e = .returned (.int .i64 (pnI (pn l))) ∧ Below w.heap.size w w' := by
  have hs := str_size l
  have hat := str_at l
  have HAT := Lib.hid hat
  obtain ⟨S, hS⟩ : ∃ S, S = str l := ⟨_, rfl⟩
  rw [← hS] at hs HAT ⊢
  clear hat hS
  match l, hl, hs, HAT with
  | [], hl, hs, HAT =>
    have h1 : (S.size : Int) = 0 := by rw [hs]; rfl
    clear HAT hs hl
    go_enter Tryd.func33, Tryd.ntmps33
    go_wp2
    go_ret
    exact ⟨rfl, Below.refl _ _⟩
  | a :: b :: c :: l, hl, hs, HAT =>
    have h1 : ¬ (S.size : Int) = 1 := by simp at hs; omega
    have h2 : ¬ (S.size : Int) = 2 := by simp at hs; omega
    have e : pn (a :: b :: c :: l) = none := rfl
    rw [e]
    clear HAT hs hl e
    go_enter Tryd.func33, Tryd.ntmps33
    go_wp2
    go_ret
    exact ⟨rfl, Below.refl _ _⟩
  | [a], hl, hs, HAT =>
    have h1 : (S.size : Int) = 1 := by simp at hs; omega
    have ha : ∀ h : 0 < S.size, S[0]'h = a := fun h => HAT.out 0 h
    clear HAT hs hl
    by_cases g1 : a.toNat < 48
    · have e : pn [a] = none := by simp [pn, dig]; omega
      rw [e]
      clear e
      have g1 : ¬ (48 : Int) ≤ (a.toNat : Int) := by omega
      go_enter Tryd.func33, Tryd.ntmps33
      go_wp2
      go_ret
      exact ⟨rfl, Below.refl _ _⟩
    · by_cases g2 : 57 < a.toNat
      · have e : pn [a] = none := by simp [pn, dig]; omega
        rw [e]
        clear e
        have g1 : (48 : Int) ≤ (a.toNat : Int) := by omega
        have g2 : ¬ (a.toNat : Int) ≤ 57 := by omega
        go_enter Tryd.func33, Tryd.ntmps33
        go_wp2
        go_ret
        exact ⟨rfl, Below.refl _ _⟩
      · have e : pnI (pn [a]) = (a.toNat : Int) - 48 := by
          have : dig a = true := by rw [dig_iff]; omega
          simp [pn, this, pnI]
          omega
        rw [e]
        clear e
        have g1 : (48 : Int) ≤ (a.toNat : Int) := by omega
        have g2 : (a.toNat : Int) ≤ 57 := by omega
        go_enter Tryd.func33, Tryd.ntmps33
        go_wp2
        go_ret
        exact ⟨rfl, Below.refl _ _⟩
  | [a, b], hl, hs, HAT =>
    have h1 : (S.size : Int) = 2 := by simp at hs; omega
    have ha : ∀ h : 0 < S.size, S[0]'h = a := fun h => HAT.out 0 h
    have hb : ∀ h : 1 < S.size, S[1]'h = b := fun h => HAT.out 1 h
    clear HAT hs hl
    by_cases g1 : a.toNat < 49
    · have e : pn [a, b] = none := by simp [pn, dig]; omega
      rw [e]
      clear e
      have g1 : ¬ (49 : Int) ≤ (a.toNat : Int) := by omega
      go_enter Tryd.func33, Tryd.ntmps33
      go_wp2
      go_ret
      exact ⟨rfl, Below.refl _ _⟩
    by_cases g2 : 57 < a.toNat
    · have e : pn [a, b] = none := by simp [pn, dig]; omega
      rw [e]
      clear e
      have g1 : (49 : Int) ≤ (a.toNat : Int) := by omega
      have g2 : ¬ (a.toNat : Int) ≤ 57 := by omega
      go_enter Tryd.func33, Tryd.ntmps33
      go_wp2
      go_ret
      exact ⟨rfl, Below.refl _ _⟩
    have g3 : (49 : Int) ≤ (a.toNat : Int) := by omega
    have g4 : (a.toNat : Int) ≤ 57 := by omega
    by_cases g5 : b.toNat < 48
    · have e : pn [a, b] = none := by simp [pn, dig]; omega
      rw [e]
      clear e
      have g5 : ¬ (48 : Int) ≤ (b.toNat : Int) := by omega
      go_enter Tryd.func33, Tryd.ntmps33
      go_wp2
      go_ret
      exact ⟨rfl, Below.refl _ _⟩
    have g6 : (48 : Int) ≤ (b.toNat : Int) := by omega
    by_cases g7 : 57 < b.toNat
    · have e : pn [a, b] = none := by simp [pn, dig]; omega
      rw [e]
      clear e
      have g7 : ¬ (b.toNat : Int) ≤ 57 := by omega
      go_enter Tryd.func33, Tryd.ntmps33
      go_wp2
      go_ret
      exact ⟨rfl, Below.refl _ _⟩
    have e : pnI (pn [a, b]) = 10 * ((a.toNat : Int) - 48) + (b.toNat : Int) - 48 := by
      have h3 : dig a = true := by rw [dig_iff]; omega
      have h4 : dig b = true := by rw [dig_iff]; omega
      simp [pn, h3, h4, pnI, show ¬ a.toNat = 48 by omega]
      omega
    rw [e]
    have g7 : (b.toNat : Int) ≤ 57 := by omega
    clear e
    go_enter Tryd.func33, Tryd.ntmps33
    go_wp2
    go_quiet (fail)
    go_wp2
    go_ret
    exact ⟨rfl, below_drewN (Below.refl _ _) _⟩
end Go.Proofs.YthebkckcnmjehaaDoor
