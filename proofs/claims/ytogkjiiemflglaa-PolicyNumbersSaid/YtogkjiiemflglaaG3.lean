/- Number, Of, Again, Due. -/
import Derived.Test.YtogkjiiemflglaaG2
namespace Go.Proofs.Ytogkjiiemflglaa
open Go Go.RowKit
set_option linter.unusedVariables false
set_option linter.unusedSimpArgs false
/-- A policy's number. -/
def nbr (a f k m l : Int) : Int := (if a = 0 then 15 else a - 1) + 16 * (f + 64 * (k - 1 + 8 * (m + 512 * l)))
def nbV (a f k m l : Int) : Int := if okP a f k m l then nbr a f k m l else 0
set_option maxHeartbeats 16000000 in
set_option maxRecDepth 100000 in
theorem number_any (a f k m l : Int) (w : World) : Calls Try.prog 9 #[pol a f k m l] w fun e w' => e = .returned (.tuple #[.int .i64 (nbV a f k m l), .int .i64 (if okP a f k m l then 0 else 1)]) ∧ Below w.heap.size w w' := by
  obtain ⟨w1, hw1⟩ : ∃ w1, w1 = w.alloc (.cells #[.int .i64 a, .int .i64 f, .int .i64 k, .int .i64 m, .int .i64 l] 23) := ⟨_, rfl⟩
  obtain ⟨g, hg⟩ : ∃ g, g = w.heap.size := ⟨_, rfl⟩
  have b1 : Below w.heap.size w w1 := by rw [hw1]; exact below_new _ _
  have nk : w1.heap[g]? = some (.cells #[.int .i64 a, .int .i64 f, .int .i64 k, .int .i64 m, .int .i64 l] 23 (0, 0)) := by rw [hw1, hg]; exact heap_alloc_new _ _
  have C := check_any a f k m l w1
  have HW1 := Lib.hid hw1
  have HG := Lib.hid hg
  have B1 := Lib.hid b1
  have HC := Lib.hid C
  have NK := Lib.hid nk
  clear hw1 hg b1 C nk
  cases hp : okP a f k m l
  · rw [show nbV a f k m l = 0 by simp [nbV, hp]]
    rw [hp] at HC
    have k0 : w1.cell? ⟨g, 0, none⟩ = some (.int .i64 a) := by rw [cell_of_rowW w1 g 0 _ _ _ (by exact NK.out)]; rfl
    have k1 : w1.cell? ⟨g, 1, none⟩ = some (.int .i64 f) := by rw [cell_of_rowW w1 g 1 _ _ _ (by exact NK.out)]; rfl
    have k2 : w1.cell? ⟨g, 2, none⟩ = some (.int .i64 k) := by rw [cell_of_rowW w1 g 2 _ _ _ (by exact NK.out)]; rfl
    have k3 : w1.cell? ⟨g, 3, none⟩ = some (.int .i64 m) := by rw [cell_of_rowW w1 g 3 _ _ _ (by exact NK.out)]; rfl
    have k4 : w1.cell? ⟨g, 4, none⟩ = some (.int .i64 l) := by rw [cell_of_rowW w1 g 4 _ _ _ (by exact NK.out)]; rfl
    unfold pol at HC ⊢
    go_enter Try.func9, Try.ntmps9
    go_upto_region 1 with fail
    rw [← HW1.out, ← HG.out]
    go_wp2_with fail
    refine HC.out.mono ?_
    rintro e w2 ⟨rfl, hb2⟩
    have B2 := Lib.hid (B1.out.trans (hb2.mono B1.out.size))
    clear hb2
    go_wp2_with fail
    go_ret2
    exact ⟨rfl, B2.out⟩
  · rw [show nbV a f k m l = nbr a f k m l by simp [nbV, hp]]
    rw [hp] at HC
    obtain ⟨h1, h2, h3, h4, h5, h6, h7, h8, h9, h10⟩ := (okP_iff a f k m l).mp hp
    obtain ⟨R, hR⟩ : ∃ R, R = nbr a f k m l := ⟨_, rfl⟩
    rw [← hR]
    have k0 : w1.cell? ⟨g, 0, none⟩ = some (.int .i64 a) := by rw [cell_of_rowW w1 g 0 _ _ _ (by exact NK.out)]; rfl
    have k1 : w1.cell? ⟨g, 1, none⟩ = some (.int .i64 f) := by rw [cell_of_rowW w1 g 1 _ _ _ (by exact NK.out)]; rfl
    have k2 : w1.cell? ⟨g, 2, none⟩ = some (.int .i64 k) := by rw [cell_of_rowW w1 g 2 _ _ _ (by exact NK.out)]; rfl
    have k3 : w1.cell? ⟨g, 3, none⟩ = some (.int .i64 m) := by rw [cell_of_rowW w1 g 3 _ _ _ (by exact NK.out)]; rfl
    have k4 : w1.cell? ⟨g, 4, none⟩ = some (.int .i64 l) := by rw [cell_of_rowW w1 g 4 _ _ _ (by exact NK.out)]; rfl
    unfold pol at HC ⊢
    by_cases ha : a = 0
    · obtain rfl : R = (((l * 512 + m) * 8 + k - 1) * 64 + f) * 16 + 15 := by rw [hR, nbr, if_pos ha]; omega
      clear hR
      subst ha
      go_enter Try.func9, Try.ntmps9
      go_upto_region 1 with fail
      rw [← HW1.out, ← HG.out]
      go_wp2_with fail
      refine HC.out.mono ?_
      rintro e w2 ⟨rfl, hb2⟩
      have B2 := Lib.hid (B1.out.trans (hb2.mono B1.out.size))
      have nk2 := (hb2.block g (lt_of_rowW NK.out)).trans NK.out
      replace k0 : w2.cell? ⟨g, 0, none⟩ = some (.int .i64 0) := by rw [cell_of_rowW w2 g 0 _ _ _ nk2]; rfl
      replace k1 : w2.cell? ⟨g, 1, none⟩ = some (.int .i64 f) := by rw [cell_of_rowW w2 g 1 _ _ _ nk2]; rfl
      replace k2 : w2.cell? ⟨g, 2, none⟩ = some (.int .i64 k) := by rw [cell_of_rowW w2 g 2 _ _ _ nk2]; rfl
      replace k3 : w2.cell? ⟨g, 3, none⟩ = some (.int .i64 m) := by rw [cell_of_rowW w2 g 3 _ _ _ nk2]; rfl
      replace k4 : w2.cell? ⟨g, 4, none⟩ = some (.int .i64 l) := by rw [cell_of_rowW w2 g 4 _ _ _ nk2]; rfl
      clear hb2 nk2
      go_wp2_with fail
      go_ret2
      exact ⟨rfl, B2.out⟩
    · obtain rfl : R = (((l * 512 + m) * 8 + k - 1) * 64 + f) * 16 + (a - 1) := by rw [hR, nbr, if_neg ha]; omega
      clear hR
      go_enter Try.func9, Try.ntmps9
      go_upto_region 1 with fail
      rw [← HW1.out, ← HG.out]
      go_wp2_with fail
      refine HC.out.mono ?_
      rintro e w2 ⟨rfl, hb2⟩
      have B2 := Lib.hid (B1.out.trans (hb2.mono B1.out.size))
      have nk2 := (hb2.block g (lt_of_rowW NK.out)).trans NK.out
      replace k0 : w2.cell? ⟨g, 0, none⟩ = some (.int .i64 a) := by rw [cell_of_rowW w2 g 0 _ _ _ nk2]; rfl
      replace k1 : w2.cell? ⟨g, 1, none⟩ = some (.int .i64 f) := by rw [cell_of_rowW w2 g 1 _ _ _ nk2]; rfl
      replace k2 : w2.cell? ⟨g, 2, none⟩ = some (.int .i64 k) := by rw [cell_of_rowW w2 g 2 _ _ _ nk2]; rfl
      replace k3 : w2.cell? ⟨g, 3, none⟩ = some (.int .i64 m) := by rw [cell_of_rowW w2 g 3 _ _ _ nk2]; rfl
      replace k4 : w2.cell? ⟨g, 4, none⟩ = some (.int .i64 l) := by rw [cell_of_rowW w2 g 4 _ _ _ nk2]; rfl
      clear hb2 nk2
      go_wp2_with fail
      go_ret2
      exact ⟨rfl, B2.out⟩
end Go.Proofs.Ytogkjiiemflglaa
