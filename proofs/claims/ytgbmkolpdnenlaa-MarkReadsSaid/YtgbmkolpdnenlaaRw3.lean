/- MarkReads: bytes that are too long. -/
import Derived.Test.YtgbmkolpdnenlaaRw2
namespace Go.Proofs.Ytgbmkolpdnenlaa.Dk
open Go Go.RowKit
set_option linter.unusedVariables false
set_option linter.unusedSimpArgs false
set_option maxRecDepth 100000 in
set_option maxHeartbeats 2000000 in
theorem reads_long {w : World} {a1 a2 : Option Addr} {c1 c2 : Nat} {A B : List UInt8} (e0 e1 : Int) (hl : 128 < A.length ∨ 128 < B.length) :
    Calls Try.prog 4 #[.slice a1 A.length c1, .slice a2 B.length c2, .agg #[.int .i64 e0, .int .i64 e1]] w fun e w' => e = .returned (.bool true) ∧ Below w.heap.size w w' := by
  obtain ⟨w0, hw0⟩ : ∃ w0, w0 = w.alloc (.cells #[.int .i64 e0, .int .i64 e1] 45 (0, 0)) := ⟨_, rfl⟩
  obtain ⟨kb, hkb⟩ : ∃ k, k = w.heap.size := ⟨_, rfl⟩
  have b0 : Below w.heap.size w w0 := by rw [hw0]; exact (Below.refl _ _).alloc (Nat.le_refl _) _
  have MK := Lib.hid (marks_any w0)
  have HW0 := Lib.hid hw0
  have HKB := Lib.hid hkb
  have HB0 := Lib.hid b0
  clear hw0 hkb b0
  by_cases q1 : (128 : Int) < (A.length : Int)
  · clear hl
    go_enter Try.func4, Try.ntmps4
    go_wp2_with fail
    rw [← HW0.out, ← HKB.out]
    refine MK.out.mono ?_
    rintro e w1 ⟨rfl, hb1⟩
    have HB1 := Lib.hid (HB0.out.trans (hb1.mono HB0.out.size))
    clear hb1 MK HB0
    go_wp2_with fail
    go_ret
    exact ⟨rfl, HB1.out⟩
  · have q2 : (128 : Int) < (B.length : Int) := by omega
    clear hl
    go_enter Try.func4, Try.ntmps4
    go_wp2_with fail
    rw [← HW0.out, ← HKB.out]
    refine MK.out.mono ?_
    rintro e w1 ⟨rfl, hb1⟩
    have HB1 := Lib.hid (HB0.out.trans (hb1.mono HB0.out.size))
    clear hb1 MK HB0
    go_wp2_with fail
    go_ret
    exact ⟨rfl, HB1.out⟩
theorem reads_any {w : World} {a1 a2 : Option Addr} {c1 c2 : Nat} {A B : List UInt8} (e0 e1 : Int) (hA : Sl w (.slice a1 A.length c1) A) (hB : Sl w (.slice a2 B.length c2) B) :
    Calls Try.prog 4 #[.slice a1 A.length c1, .slice a2 B.length c2, .agg #[.int .i64 e0, .int .i64 e1]] w fun e w' => e = .returned (.bool true) ∧ Below w.heap.size w w' := by
  by_cases h1 : A.length ≤ 128
  · by_cases h2 : B.length ≤ 128
    · exact reads_main e0 e1 hA hB h1 h2
    · exact reads_long e0 e1 (.inr (by omega))
  · exact reads_long e0 e1 (.inl (by omega))
end Go.Proofs.Ytgbmkolpdnenlaa.Dk
