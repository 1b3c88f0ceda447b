/- What a ring's calls total and Append leave. -/
import Derived.Test.YtllnaocnojhlkaaUb
namespace Go.Proofs.Ytllnaocnojhlkaa.Dk
open Go Go.RowKit
set_option linter.unusedVariables false
set_option linter.unusedSimpArgs false

/-- Parts: a slice of slices of bytes. -/
def Parts (w : World) (v : Value) (L : List (List UInt8)) : Prop :=
  ∃ ao c, v = .slice ao L.length c ∧ ∀ j, j < L.length → ∃ a, ao = some a ∧ ∃ aj cj, w.cell? (a.add j) = some (.slice aj (L.getD j []).length cj) ∧ Sl w (.slice aj (L.getD j []).length cj) (L.getD j [])
theorem Parts.below {w w' : World} {v : Value} {L : List (List UInt8)} (h : Parts w v L) {B : Nat} (hb : Below B w w') (hB : w.heap.size ≤ B) : Parts w' v L := by
  obtain ⟨ao, c, rfl, hc⟩ := h
  refine ⟨ao, c, rfl, fun j hj => ?_⟩
  obtain ⟨a, ha, aj, cj, h1, h2⟩ := hc j hj
  refine ⟨a, ha, aj, cj, ?_, h2.below (hb.mono hB)⟩
  rw [hb.cell (Nat.lt_of_lt_of_le (World.block_lt_of_cell? w _ h1) hB)]
  exact h1
def sumLen (L : List (List UInt8)) : Nat := L.flatten.length
theorem flat_take {L : List (List UInt8)} {j : Nat} (hj : j < L.length) : (L.take (j + 1)).flatten = (L.take j).flatten ++ L.getD j [] := by
  rw [List.take_add_one, List.flatten_append, List.getElem?_eq_getElem hj]
  simp [List.getD, hj]
theorem sumLen_take {L : List (List UInt8)} {j : Nat} (hj : j < L.length) : sumLen (L.take (j + 1)) = sumLen (L.take j) + (L.getD j []).length := by
  unfold sumLen
  rw [flat_take hj, List.length_append]
theorem sumLen_le {L : List (List UInt8)} (j : Nat) : sumLen (L.take j) ≤ sumLen L := by
  have h : L.flatten = (L.take j).flatten ++ (L.drop j).flatten := by rw [← List.flatten_append, List.take_append_drop]
  unfold sumLen
  rw [h, List.length_append]
  omega
def TotRel (L : List (List UInt8)) (room : Nat) (w : World) (u v : Value) (wr : World) : Prop := ∃ j : Nat, u = .int .i64 (j : Int) ∧ v = .int .i64 ((sumLen (L.take j) : Nat) : Int) ∧ j ≤ L.length ∧ sumLen (L.take j) ≤ room ∧ wr = w
set_option maxRecDepth 100000 in
theorem total_any (room : Nat) (hr : room ≤ 1000000) (ao : Option Addr) (c : Nat) (L : List (List UInt8)) (w : World) (hP : Parts w (.slice ao L.length c) L) (hl : L.length ≤ 1000000) :
    Calls Try.prog 51 #[.int .i64 (room : Int), .slice ao L.length c] w fun e w' => ((sumLen L ≤ room ∧ e = .returned (.tuple #[.int .i64 ((sumLen L : Nat) : Int), .int .i64 0])) ∨ (room < sumLen L ∧ e = .returned (.tuple #[.int .i64 0, .int .i64 3]))) ∧ w = w' := by
  obtain ⟨ao', c', e, hc⟩ := hP
  injection e with e1 e2 e3
  subst e1 e3
  have HC := Lib.hid hc
  clear hc e2
  go_enter Try.func51, Try.ntmps51
  go_wp2_with fail
  go_loopw [11, 6] (fun u v wr => TotRel L room w u v wr) (fun u _ _ => L.length - (intOf u).toNat)
  case atStart => exact ⟨0, rfl, by simp [sumLen], Nat.zero_le _, by simp [sumLen], rfl⟩
  case round =>
    obtain ⟨wo, rfl⟩ : ∃ wo : World, wo = wr := ⟨_, rfl⟩
    obtain ⟨j, rfl, rfl, hj, hs, rfl⟩ := hrel
    by_cases hjl : j < L.length
    · have hji : (j : Int) < (L.length : Int) := by omega
      obtain ⟨a, rfl, aj, cj, hcell, hsl⟩ := HC.out j hjl
      have st := sumLen_take hjl
      have sle := sumLen_le (L := L) (j + 1)
      generalize hp : (L.getD j []).length = pl at *
      obtain ⟨sj, hsj⟩ : ∃ sj, sj = sumLen (L.take j) := ⟨_, rfl⟩
      rw [← hsj] at st hs ⊢
      by_cases hbig : room < sj + pl
      · have hbi : (room : Int) - (sj : Int) < (pl : Int) := by omega
        have hno : ¬ sumLen L ≤ room := by omega
        have HNO := Lib.hid hno
        clear hsl st sle hsj hp hbig hno
        go_wp2_with fail
        go_ret2
        exact ⟨.inr ⟨by have := HNO.out; omega, rfl⟩, rfl⟩
      · have hbi : ¬ (room : Int) - (sj : Int) < (pl : Int) := by omega
        have RR := Lib.hid (show TotRel L room wo (.int .i64 ((j + 1 : Nat) : Int)) (.int .i64 ((sj : Int) + (pl : Int))) wo from ⟨j + 1, rfl, by rw [st]; simp, by omega, by omega, rfl⟩)
        have hb2 : sj + pl ≤ 1000000 := by omega
        clear hsl st sle hsj hp hbig
        go_wp2_with fail
        exact ⟨RR.out, by simp [intOf]; omega⟩
    · obtain rfl : j = L.length := by omega
      rw [List.take_length] at hs ⊢
      have HS := Lib.hid hs
      clear hs
      go_wp2_with fail
      go_ret2
      exact ⟨.inl ⟨HS.out, rfl⟩, rfl⟩
end Go.Proofs.Ytllnaocnojhlkaa.Dk
