/- What a Reader's calls Byte, digits, Num, Int, Count, Text and End leave. -/
import Derived.Test.YtcjnfmlpjolfpaaNx
import Derived.Laws.BytesArg
namespace Go.Proofs.Ytcjnfmlpjolfpaa
open Go Go.RowKit
set_option linter.unusedVariables false

/-- The next byte. -/
def rb (xs : List UInt8) (k : Nat) (err : Int) : UInt8 × Nat × Int :=
  if err ≠ 0 then (0, k, err) else if k < xs.length then (xs.getD k 0, k + 1, 0) else (0, k, 6)

theorem nx_one_ok {xs : List UInt8} {k : Nat} (h : k < xs.length) : nx xs k 0 1 = ([xs.getD k 0], k + 1, 0) := by
  have e : (xs.drop k).take 1 = [xs.getD k 0] := by
    rw [List.drop_eq_getElem_cons h, List.take_succ_cons, List.take_zero]
    simp [List.getD, h]
  simp [nx, e]; omega
theorem nx_one_short {xs : List UInt8} {k : Nat} (h : xs.length ≤ k) : nx xs k 0 1 = ([], k, 6) := by
  simp [nx]; omega
theorem nx_err {xs : List UInt8} {k n : Nat} {err : Int} (h : err ≠ 0) : nx xs k err n = ([], k, err) := by simp [nx, h]

set_option maxHeartbeats 800000 in
theorem rbyte_any {w : World} {b : Nat} {r : Option Nat} {xs : List UInt8} {k : Nat} {err : Int} (h : Rd w b r xs k err) (hsz : xs.length ≤ 140737488355328) :
    Calls Try.prog 19 #[.pointer (some ⟨b, 0, none⟩)] w fun e w' => e = .returned (bv (rb xs k err).1) ∧ Rd w' b r xs (rb xs k err).2.1 (rb xs k err).2.2 ∧ Fr w w' b none := by
  have N := next_any h 1 (by omega) hsz
  by_cases he : err = 0
  · subst he
    by_cases hl : k < xs.length
    · rw [nx_one_ok hl] at N
      have e : rb xs k 0 = (xs.getD k 0, k + 1, 0) := by simp [rb, hl]
      rw [e]
      generalize xs.getD k 0 = y at N ⊢
      have HN := Lib.hid N
      clear e N
      go_enter Try.func19, Try.ntmps19
      go_wp2_with fail
      refine (HN.out).mono ?_
      rintro e w2 ⟨v, rfl, ⟨ao, c, rfl, hno, hs⟩, hR, hF⟩
      obtain ⟨ax, cx, c0, c1, c2, f1, f2, _⟩ := hR.cells
      obtain ⟨ad, rfl⟩ : ∃ ad, ao = some ad := by
        cases ao with
        | none => exact absurd (hno rfl) (by simp)
        | some ad => exact ⟨ad, rfl⟩
      have hc : w2.cell? ad = some (bv y) := by
        have := hs ad rfl 0 _ (by simp [bvs]; rfl)
        simpa [Addr.add] using this
      go_wp2
      go_ret
      exact ⟨rfl, hR, hF⟩
    · rw [nx_one_short (by omega)] at N
      have e : rb xs k 0 = (0, k, 6) := by simp [rb, hl]
      rw [e]
      have HN := Lib.hid N
      clear e N
      go_enter Try.func19, Try.ntmps19
      go_wp2_with fail
      refine (HN.out).mono ?_
      rintro e w2 ⟨v, rfl, ⟨ao, c, rfl, hno, hs⟩, hR, hF⟩
      obtain ⟨ax, cx, c0, c1, c2, f1, f2, _⟩ := hR.cells
      go_wp2
      go_ret
      exact ⟨rfl, hR, hF⟩
  · rw [nx_err he] at N
    have e : rb xs k err = (0, k, err) := by simp [rb, he]
    rw [e]
    have HN := Lib.hid N
    have hb : (err != 0) = true := by simpa using he
    clear e N
    go_enter Try.func19, Try.ntmps19
    go_wp2_with fail
    refine (HN.out).mono ?_
    rintro e w2 ⟨v, rfl, ⟨ao, c, rfl, hno, hs⟩, hR, hF⟩
    obtain ⟨ax, cx, c0, c1, c2, f1, f2, _⟩ := hR.cells
    go_wp2
    go_ret
    exact ⟨rfl, hR, hF⟩
end Go.Proofs.Ytcjnfmlpjolfpaa
