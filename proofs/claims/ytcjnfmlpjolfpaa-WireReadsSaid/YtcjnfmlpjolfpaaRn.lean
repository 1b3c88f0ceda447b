/- What a Reader's calls Num, Int, Count, Text, Left and End leave. -/
import Derived.Test.YtcjnfmlpjolfpaaDg
namespace Go.Proofs.Ytcjnfmlpjolfpaa
open Go Go.RowKit
set_option linter.unusedVariables false

/-- The next number, at most so much. -/
def rn (xs : List UInt8) (k : Nat) (err : Int) (most : Nat) : Nat × Nat × Int :=
  let x := dg 10 xs k err 0 0
  let e2 := if most < x.1 then fe x.2.2 2 else x.2.2
  (if e2 = 0 then x.1 else 0, x.2.1, e2)

def NumPost (w : World) (b : Nat) (r : Option Nat) (xs : List UInt8) (X : Nat × Nat × Int) (e : Ending) (w' : World) : Prop :=
  e = .returned (.int .u64 (X.1 : Int)) ∧ Rd w' b r xs X.2.1 X.2.2 ∧ Fr w w' b none

set_option maxRecDepth 100000 in
set_option maxHeartbeats 1600000 in
theorem rnum_any {w : World} {b : Nat} {r : Option Nat} {xs : List UInt8} {k : Nat} {err : Int} (h : Rd w b r xs k err) (hsz : xs.length ≤ 140737488355328) (most : Nat) (hm : most < 18446744073709551616) :
    Calls Try.prog 20 #[.pointer (some ⟨b, 0, none⟩), .int .u64 (most : Int)] w (NumPost w b r xs (rn xs k err most)) := by
  obtain ⟨X, hX⟩ : ∃ X, X = dg 10 xs k err 0 0 := ⟨_, rfl⟩
  have D := digits_post h hsz X hX
  have hrn : rn xs k err most = (if (if most < X.1 then fe X.2.2 2 else X.2.2) = 0 then X.1 else 0, X.2.1, if most < X.1 then fe X.2.2 2 else X.2.2) := by rw [rn, ← hX]
  rw [hrn]
  clear hrn hX
  obtain ⟨n, k1, e1⟩ := X
  dsimp only
  by_cases hl : most < n
  · rw [if_pos hl]
    have HL := Lib.hid hl
    have hli : (most : Int) < (n : Int) := by omega
    by_cases he : fe e1 2 = 0
    · rw [if_pos he]
      have HE := Lib.hid he
      have hb : (fe e1 2 != 0) = false := by simpa using he
      clear hl he
      go_enter Try.func20, Try.ntmps20
      go_wp2_with fail
      refine D.mono ?_
      rintro e w2 ⟨rfl, hR2, hF2⟩
      dsimp only at hR2
      go_wp2_with fail
      refine (fail_any hR2 2).mono ?_
      rintro e w3 ⟨rfl, hR3, hF3⟩
      obtain ⟨ax, cx, c0, c1, c2, f1, f2, _⟩ := hR3.cells
      go_wp2
      go_ret
      exact ⟨rfl, hR3, hF2.trans (Or.inl rfl) hF3⟩
    · rw [if_neg he]
      have hb : (fe e1 2 != 0) = true := by simpa using he
      clear hl he
      go_enter Try.func20, Try.ntmps20
      go_wp2_with fail
      refine D.mono ?_
      rintro e w2 ⟨rfl, hR2, hF2⟩
      dsimp only at hR2
      go_wp2_with fail
      refine (fail_any hR2 2).mono ?_
      rintro e w3 ⟨rfl, hR3, hF3⟩
      obtain ⟨ax, cx, c0, c1, c2, f1, f2, _⟩ := hR3.cells
      go_wp2
      go_ret
      exact ⟨rfl, hR3, hF2.trans (Or.inl rfl) hF3⟩
  · rw [if_neg hl]
    have hli : (n : Int) ≤ (most : Int) := by omega
    by_cases he : e1 = 0
    · rw [if_pos he]
      have HE := Lib.hid he
      have hb : (e1 != 0) = false := by simpa using he
      clear hl he
      go_enter Try.func20, Try.ntmps20
      go_wp2_with fail
      refine D.mono ?_
      rintro e w2 ⟨rfl, hR2, hF2⟩
      dsimp only at hR2
      obtain ⟨ax, cx, c0, c1, c2, f1, f2, _⟩ := hR2.cells
      go_wp2
      go_ret
      exact ⟨rfl, hR2, hF2⟩
    · rw [if_neg he]
      have hb : (e1 != 0) = true := by simpa using he
      clear hl he
      go_enter Try.func20, Try.ntmps20
      go_wp2_with fail
      refine D.mono ?_
      rintro e w2 ⟨rfl, hR2, hF2⟩
      dsimp only at hR2
      obtain ⟨ax, cx, c0, c1, c2, f1, f2, _⟩ := hR2.cells
      go_wp2
      go_ret
      exact ⟨rfl, hR2, hF2⟩

theorem i64_not_pos {a : Int} (h0 : 0 ≤ a) (h1 : a < 9223372036854775808) : bits .xor .i64 (-1) a = -1 - a := by
  show IntKind.i64.wrap ((BitVec.ofInt 64 (-1) ^^^ BitVec.ofInt 64 a).toNat : Int) = _
  have e : BitVec.ofInt 64 (-1) = BitVec.allOnes 64 := by decide
  rw [e, BitVec.allOnes_xor, BitVec.toNat_not, BitVec.toNat_ofInt]
  simp [IntKind.wrap, IntKind.bits, IntKind.signed]
  omega

theorem unfold_any (u : Nat) (w : World) (hu : u < 18446744073709551616) :
    Calls Try.prog 38 #[.int .u64 (u : Int)] w fun e w' => e = .returned (.int .i64 (zag u)) ∧ w = w' := by
  have hq : 0 ≤ (u : Int) / 2 ∧ (u : Int) / 2 < 9223372036854775808 := by omega
  by_cases ho : u % 2 = 1
  · have hz : zag u = -1 - (u : Int) / 2 := by unfold zag; rw [if_pos ho]; omega
    have hx := i64_not_pos hq.1 hq.2
    have hb : (((u : Int) % 2) == 1) = true := by simp; omega
    rw [hz]
    clear hz ho
    go_enter Try.func38, Try.ntmps38
    go_wp2
    all_goals (go_ret; exact ⟨rfl, rfl⟩)
  · have hz : zag u = (u : Int) / 2 := by unfold zag; rw [if_neg ho]; omega
    have hb : (((u : Int) % 2) == 1) = false := by simp; omega
    rw [hz]
    clear hz ho
    go_enter Try.func38, Try.ntmps38
    go_wp2
    all_goals (go_ret; exact ⟨rfl, rfl⟩)
end Go.Proofs.Ytcjnfmlpjolfpaa
