/- The reference's has. -/
import Derived.Test.YthebkckcnmjehaaDoorCy
namespace Go.Proofs.YthebkckcnmjehaaDoor
open Go Go.RowKit
set_option linter.unusedVariables false
set_option linter.unusedSimpArgs false
/-- A row of numbers in memory. -/
def NumRow (w : World) (ao : Option Addr) (L : List Nat) : Prop := ∀ j, j < L.length → ∃ gp, ao = some ⟨gp, 0, none⟩ ∧ gp < w.heap.size ∧ w.cell? ⟨gp, j, none⟩ = some (.int .i64 (L.getD j 0 : Nat))
theorem NumRow.below {w w' : World} {C : Nat} {ao : Option Addr} {L : List Nat} (h : NumRow w ao L) (hb : Below C w w') (hC : w.heap.size ≤ C) : NumRow w' ao L := fun j hj => by
  obtain ⟨gp, h1, h3, h4⟩ := h j hj
  exact ⟨gp, h1, Nat.lt_of_lt_of_le h3 hb.size, by rw [hb.cell (p := ⟨gp, j, none⟩) (by simp; omega)]; exact h4⟩
def hsRel (L : List Nat) (n : Nat) (i : Value) : Prop := ∃ k : Nat, i = .int .i64 (k : Int) ∧ k ≤ L.length ∧ ∀ j, j < k → L.getD j 0 ≠ n
set_option maxHeartbeats 4000000 in
theorem refHas_any (L : List Nat) (hL : L.length ≤ 1000000) (ao : Option Addr) (c : Nat) (st : Bool) (n : Nat) (hn : n < 1000000) (w : World) (hR : NumRow w ao L) : Calls Tryd.prog 28 #[.agg #[.slice ao L.length c, .bool st], .int .i64 (n : Int)] w fun e w' => e = .returned (.bool (decide (n ∈ L))) ∧ Below w.heap.size w w' := by
  obtain ⟨r, hr⟩ : ∃ r, r = decide (n ∈ L) := ⟨_, rfl⟩
  rw [← hr]
  have HRR := Lib.hid hr
  clear hr
  obtain ⟨w1, hw1⟩ : ∃ w1, w1 = w.alloc (.cells #[.slice ao L.length c, .bool st] 67) := ⟨_, rfl⟩
  obtain ⟨g, hg⟩ : ∃ g, g = w.heap.size := ⟨_, rfl⟩
  have hb1 : Below w.heap.size w w1 := by rw [hw1]; exact (Below.refl _ _).alloc (Nat.le_refl _) _
  have nk : w1.heap[g]? = some (.cells #[.slice ao L.length c, .bool st] 67 (0, 0)) := by rw [hw1, hg]; exact heap_alloc_new _ _
  have HR := Lib.hid (hR.below hb1 (Nat.le_refl _))
  have HW1 := Lib.hid hw1
  have HB1 := Lib.hid hb1
  have k0 : w1.cell? ⟨g, 0, none⟩ = some (.slice ao L.length c) := by rw [cell_of_rowW w1 g 0 _ _ _ nk]; rfl
  have HG := Lib.hid hg
  clear hw1 hb1 hR nk hg
  go_enter Tryd.func28, Tryd.ntmps28
  go_upto_region 1 with fail
  rw [← HW1.out, ← HG.out]
  go_wp2_with fail
  go_loop [5] (fun i => hsRel L n i) (fun i => L.length - (intOf i).toNat)
  case atStart => exact ⟨0, rfl, Nat.zero_le _, fun j hj => absurd hj (Nat.not_lt_zero j)⟩
  case round =>
    obtain ⟨k, rfl, hk, hd⟩ := hrel
    have HD := Lib.hid hd
    clear hd
    by_cases hkl : k < L.length
    · obtain ⟨gp, rfl, hgp, cell⟩ := HR.out k hkl
      have q0 : (0 : Int) ≤ (k : Int) := by omega
      have q1 : (k : Int) < (L.length : Int) := by omega
      obtain ⟨z, hz⟩ : ∃ z, z = L.getD k 0 := ⟨_, rfl⟩
      rw [← hz] at cell
      have HZ := Lib.hid hz
      clear hz
      by_cases e : z = n
      · have hin : decide (n ∈ L) = true := by
          have h := HZ.out
          rw [List.getD, List.getElem?_eq_getElem hkl] at h
          exact decide_eq_true (by rw [← e, h]; exact List.getElem_mem hkl)
        obtain rfl : r = true := HRR.out.trans hin
        have e2 : (z : Int) = (n : Int) := by omega
        clear hin
        go_wp2_with fail
        go_ret
        exact ⟨rfl, HB1.out⟩
      · have e2 : ¬ (z : Int) = (n : Int) := by omega
        go_wp2_with fail
        go_round
        case rel => exact ⟨k + 1, by go_num, by omega, fun j hj => by
          by_cases e3 : j = k
          · rw [e3, ← HZ.out]; exact e
          · exact HD.out j (by omega)⟩
        case measure => simp [intOf]; omega
    · have q1 : ¬ (k : Int) < (L.length : Int) := by omega
      have hout : decide (n ∈ L) = false := decide_eq_false fun h => by
        obtain ⟨j, hj, e⟩ := List.mem_iff_getElem.1 h
        have := HD.out j (by omega)
        rw [List.getD, List.getElem?_eq_getElem hj] at this
        exact this e
      obtain rfl : r = false := HRR.out.trans hout
      clear hout
      go_wp2_with fail
      go_ret
      exact ⟨rfl, HB1.out⟩
end Go.Proofs.YthebkckcnmjehaaDoor
