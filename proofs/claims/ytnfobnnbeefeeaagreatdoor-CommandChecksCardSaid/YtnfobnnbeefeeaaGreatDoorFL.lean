/- The reference's All of commands; small. -/
import Derived.Test.YtnfobnnbeefeeaaGreatDoorFJ
import Derived.Test.YtnfobnnbeefeeaaGreatDoorGP
namespace Go.Proofs.YtnfobnnbeefeeaaGreatDoor.Wi
open Go Go.RowKit
set_option linter.unusedVariables false
set_option linter.unusedSimpArgs false
theorem ends_ok {x : Cm} (h : x.vE = 0) : x.ends = decide (4 ≤ x.kind) := by
  have := (Cm.fits h).kn
  unfold Cm.ends
  rw [decide_eq_true this.2, Bool.and_true]
set_option maxHeartbeats 8000000 in
set_option maxRecDepth 100000 in
theorem rcall_any (ao : Option Addr) (c : Nat) (l : List Cm) (N : Nat) (w : World) (hv : CL N w ao l) (hN : N ≤ w.heap.size) : Calls Tryz.prog 22 #[.slice ao l.length c] w fun e w' => e = .returned (.int .i64 (allE l)) ∧ Below w.heap.size w w' := by
  obtain ⟨R, hR⟩ : ∃ R, R = allE l := ⟨_, rfl⟩
  rw [← hR]
  unfold allE at hR
  have hll := hv.len
  have HV := Lib.hid hv
  have HN := Lib.hid hN
  clear hv hN
  by_cases h256 : 256 < l.length
  · rw [if_pos h256] at hR
    subst hR
    have q1 : (256 : Int) < (l.length : Int) := by omega
    go_enter Tryz.func22, Tryz.ntmps22
    go_wp2_with fail
    go_ret
    exact ⟨rfl, Below.refl _ _⟩
  rw [if_neg h256] at hR
  have q1 : ¬ (256 : Int) < (l.length : Int) := by omega
  have R0 := Lib.hid (show caRel w R l (.int .i64 0) w from ⟨0, rfl, Nat.zero_le _, hR, Below.refl _ _⟩)
  clear hR h256
  go_enter Tryz.func22, Tryz.ntmps22
  go_wp2_with fail
  go_loopw [3] (fun i wr => caRel w R l i wr) (fun i _ => l.length - (intOf i).toNat)
  case atStart => exact R0.out
  case round =>
    obtain ⟨wq, rfl⟩ : ∃ wq : World, wq = wr := ⟨_, rfl⟩
    obtain ⟨j, rfl, hj, hr, hbq⟩ := hrel
    have q0 : (0 : Int) ≤ (j : Int) := by omega
    have BQ := Lib.hid hbq
    have HR := Lib.hid hr
    clear hbq hr R0
    by_cases hjl : j < l.length
    · have q2 : (j : Int) < (l.length : Int) := by omega
      obtain ⟨x, hx⟩ : ∃ x, l[j]? = some x := ⟨_, List.getElem?_eq_getElem hjl⟩
      obtain ⟨hxv, ad, rfl, had, hxc⟩ := HV.out.elem hx
      have nb : ∀ W, Below wq.heap.size wq W → ∀ k, k < N → W.heap[k]? = w.heap[k]? := fun W h k hk => (h.block k (Nat.lt_of_lt_of_le hk (Nat.le_trans HN.out BQ.out.size))).trans (BQ.out.block k (Nat.lt_of_lt_of_le hk HN.out))
      have KX := Lib.hid (fun W h => hxc W (nb W h))
      have hdr : l.drop j = x :: l.drop (j + 1) := by
        rw [List.drop_eq_getElem_cons hjl]
        congr 1
        have := List.getElem?_eq_getElem hjl
        rw [hx] at this
        exact (Option.some.inj this).symm
      have CK := Lib.hid (rccheck_any x N wq (hxv.below (BQ.out.mono HN.out)) (Nat.le_trans HN.out BQ.out.size))
      obtain ⟨ve, hve⟩ : ∃ ve, ve = x.vE := ⟨_, rfl⟩
      rw [← hve] at CK
      have hr2 : R = if ve ≠ 0 then ve else if x.ends = true ∧ j + 1 < l.length then 7 else allC (l.drop (j + 1)) := by
        rw [HR.out, hdr, allC, ← hve]
        have e1 : (l.drop (j + 1) ≠ []) = (j + 1 < l.length) := by
          apply propext
          rw [Ne, List.drop_eq_nil_iff]
          omega
        simp only [e1]
      have HR2 := Lib.hid hr2
      have HVE := Lib.hid hve
      have RLq := Lib.hid (fun W (h : Below wq.heap.size wq W) => BQ.out.trans (h.mono BQ.out.size))
      have kx := Lib.hid (KX.out wq (Below.refl _ _))
      clear hr2 hve hdr hxv hxc had hx nb HR
      go_wp2_with (first | (with_reducible show wpList _ _ _ _ _ _; refine wpList_load_allW rfl 42 (.tmp 16) rfl _ rfl x.cells _ kx.out Tryz.underlying42 rfl (Tryz.cmSize x) ?_))
      refine CK.out.mono ?_
      rintro e w6 ⟨rfl, hb6⟩
      have B6 := Lib.hid hb6
      clear hb6
      by_cases hz : ve = 0
      case neg =>
        have hz1 : (ve != 0) = true := by simpa using hz
        obtain rfl : R = ve := by rw [HR2.out, if_pos hz]
        go_wp2_with fail
        go_ret
        exact ⟨rfl, RLq.out _ B6.out⟩
      have hen := ends_ok (x := x) (by rw [← HVE.out]; exact hz)
      obtain ⟨k, hk⟩ : ∃ k, k = x.kind := ⟨_, rfl⟩
      rw [← hk] at hen
      have HR3 := Lib.hid (show R = if 4 ≤ k ∧ j + 1 < l.length then 7 else allC (l.drop (j + 1)) by rw [HR2.out, if_neg (by simpa using hz), hen]; simp only [decide_eq_true_eq])
      subst hz
      clear HR2 hen
      have c0 : w6.cell? ((ad.add (j * 9)).add 0) = some (.int .i64 k) := by rw [hk]; exact KX.out w6 B6.out 0 _ rfl
      rw [Addr.add_add, Nat.add_zero] at c0
      clear hk
      by_cases h4 : 4 ≤ k
      · by_cases hjn : j + 1 < l.length
        · have q3 : (j : Int) < (l.length : Int) - 1 := by omega
          obtain rfl : R = 7 := by rw [HR3.out, if_pos ⟨h4, hjn⟩]
          go_wp2_with fail
          go_ret
          exact ⟨rfl, RLq.out _ B6.out⟩
        · have q3 : ¬ (j : Int) < (l.length : Int) - 1 := by omega
          have RL := Lib.hid (show caRel w R l (.int .i64 ((j + 1 : Nat) : Int)) w6 from ⟨j + 1, rfl, hjl, by rw [HR3.out, if_neg (fun h => hjn h.2)], RLq.out _ B6.out⟩)
          go_wp2_with fail
          exact ⟨RL.out, by simp [intOf]; omega⟩
      · have RL := Lib.hid (show caRel w R l (.int .i64 ((j + 1 : Nat) : Int)) w6 from ⟨j + 1, rfl, hjl, by rw [HR3.out, if_neg (fun h => h4 h.1)], RLq.out _ B6.out⟩)
        go_wp2_with fail
        exact ⟨RL.out, by simp [intOf]; omega⟩
    · have q2 : ¬ (j : Int) < (l.length : Int) := by omega
      obtain rfl : R = 0 := by rw [HR.out, List.drop_eq_nil_of_le (by omega)]; rfl
      go_wp2_with fail
      go_ret
      exact ⟨rfl, BQ.out⟩
end Go.Proofs.YtnfobnnbeefeeaaGreatDoor.Wi
