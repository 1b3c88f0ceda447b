/- The reference's Check and All of commands. -/
import Derived.Test.YtnfobnnbeefeeaaGreatDoorGX
import Derived.Test.YtnfobnnbeefeeaaGreatDoorGR
import Derived.Test.YtnfobnnbeefeeaaGreatDoorGO
namespace Go.Proofs.YtnfobnnbeefeeaaGreatDoor.Wi
open Go Go.RowKit
set_option linter.unusedVariables false
set_option linter.unusedSimpArgs false
theorem crng_split (x : Cm) (C4 : Bool) (h4 : C4 = (decide (x.time < 0) || decide (4611686018427387903 < x.time) || decide (x.a < 0) || decide (x.b < 0) || (!cA x.kind && (x.a != 0)) || (!cB x.kind && (x.b != 0)))) : x.rng = !C4 := by
  subst h4
  unfold Cm.rng eOk
  generalize cA x.kind = fa
  generalize cB x.kind = fb
  cases fa <;> cases fb <;> simp <;> grind
theorem cnm_empty (k : Int) : decide (cNm k = []) = !cKn k := by
  by_cases hk : 1 ≤ k ∧ k ≤ 6
  · have h1 : ∀ i : Fin 6, cNms.getD i.val [] ≠ [] := by decide +kernel
    have h2 := h1 ⟨k.toNat - 1, by omega⟩
    have h3 : cNm k ≠ [] := by unfold cNm; rw [if_pos hk]; exact h2
    have h4 : cKn k = true := by simp [cKn, hk]
    rw [decide_eq_false h3, h4]; rfl
  · have h3 : cNm k = [] := by unfold cNm; rw [if_neg hk]
    have h4 : cKn k = false := by
      cases hq : cKn k
      · rfl
      · exact absurd (by simpa [cKn] using hq) hk
    rw [decide_eq_true h3, h4]; rfl
theorem c8_eq (p1 fn fv : Bool) (vk : Int) : ((p1 = false ∧ fn = false) ∨ (vk ≠ 0 ∧ fv = false)) = (((!fn && !p1) || (!fv && (vk != 0))) = true) := by
  apply propext
  by_cases hv : vk = 0
  · subst hv
    cases p1 <;> cases fn <;> cases fv <;> simp
  · have h1 : (vk != 0) = true := by simpa using hv
    rw [h1]
    cases p1 <;> cases fn <;> cases fv <;> simp [hv]
set_option maxHeartbeats 16000000 in
set_option maxRecDepth 100000 in
theorem rccheck_any (x : Cm) (N : Nat) (w : World) (hx : x.At N w) (hN : N ≤ w.heap.size) : Calls Tryz.prog 21 #[.agg x.cells.toArray] w fun e w' => e = .returned (.int .i64 x.vE) ∧ Below w.heap.size w w' := by
  obtain ⟨R, hR⟩ : ∃ R, R = x.vE := ⟨_, rfl⟩
  rw [← hR]
  unfold Cm.vE at hR
  obtain ⟨w1, hw1⟩ : ∃ bx, bx = w.alloc (.cells x.cells.toArray 42) := ⟨_, rfl⟩
  obtain ⟨g, hg⟩ : ∃ bx, bx = w.heap.size := ⟨_, rfl⟩
  have bw1 : Below w.heap.size w w1 := by rw [hw1]; exact (Below.refl _ _).alloc (Nat.le_refl _) _
  have nw1 : w1.heap[g]? = some (.cells x.cells.toArray 42 (0, 0)) := by rw [hw1, hg]; exact heap_alloc_new _ _
  have Kw1 := Lib.hid (rowC nw1)
  have Cw1 := Lib.hid (cmC nw1)
  have Hw1 := Lib.hid hw1
  have Hg := Lib.hid hg
  have Bw1 := Lib.hid bw1
  have Nw1 := Lib.hid nw1
  clear hw1 hg bw1 nw1
  have HX1 := Lib.hid (hx.below (Bw1.out.mono hN))
  have KN := Lib.hid (rcname_any x.kind hx.kind w1)
  have sn := str_empty (cNm x.kind)
  rw [cnm_empty] at sn
  have FA := Lib.hid (fun W => rcA_any x.kind W)
  have FB := Lib.hid (fun W => rcB_any x.kind W)
  have FN := Lib.hid (fun W => rcN_any x.kind W)
  have FV := Lib.hid (fun W => rcV_any x.kind W)
  have zn := str_sizeX x.name
  have en := str_empty x.name
  have ROW := Lib.hid (fun (W : World) (h : Below w1.heap.size w1 W) => cmC ((h.block g (lt_of_rowK Nw1.out)).trans Nw1.out))
  have VC := Lib.hid (fun W (h : Below w1.heap.size w1 W) => rcheck_any x.val N W (HX1.out.val.below (h.mono (Nat.le_trans hN Bw1.out.size))) (Nat.le_trans hN (Nat.le_trans Bw1.out.size h.size)))
  obtain ⟨C4, hC4⟩ : ∃ C, C = (decide (x.time < 0) || decide (4611686018427387903 < x.time) || decide (x.a < 0) || decide (x.b < 0) || (!cA x.kind && (x.a != 0)) || (!cB x.kind && (x.b != 0))) := ⟨_, rfl⟩
  rw [crng_split x C4 hC4] at hR
  obtain ⟨k, hk⟩ : ∃ k, k = x.kind := ⟨_, rfl⟩
  obtain ⟨M, hM⟩ : ∃ M, M = str (cNm x.kind) := ⟨_, rfl⟩
  obtain ⟨S, hS⟩ : ∃ S, S = str x.name := ⟨_, rfl⟩
  obtain ⟨kn, hkn⟩ : ∃ kn, kn = cKn x.kind := ⟨_, rfl⟩
  obtain ⟨fa, hfa⟩ : ∃ fn, fn = cA x.kind := ⟨_, rfl⟩
  obtain ⟨fb, hfb⟩ : ∃ fn, fn = cB x.kind := ⟨_, rfl⟩
  obtain ⟨fn, hfn⟩ : ∃ fn, fn = cN x.kind := ⟨_, rfl⟩
  obtain ⟨fv, hfv⟩ : ∃ fv, fv = cV x.kind := ⟨_, rfl⟩
  obtain ⟨t, ht⟩ : ∃ p, p = x.time := ⟨_, rfl⟩
  obtain ⟨a, ha⟩ : ∃ p, p = x.a := ⟨_, rfl⟩
  obtain ⟨b, hb⟩ : ∃ p, p = x.b := ⟨_, rfl⟩
  obtain ⟨L1, hL1⟩ : ∃ L1, L1 = x.name.length := ⟨_, rfl⟩
  obtain ⟨vk, hvk⟩ : ∃ vk, vk = x.val.kd := ⟨_, rfl⟩
  obtain ⟨ve, hve⟩ : ∃ ve, ve = x.val.vE := ⟨_, rfl⟩
  obtain ⟨p1, hp1⟩ : ∃ p1, p1 = decide (x.name = []) := ⟨_, rfl⟩
  have D := Lib.hid (show ∀ W, Below w1.heap.size w1 W → W.cell? ⟨g, 0, none⟩ = some (.int .i64 k) ∧ W.cell? ⟨g, 1, none⟩ = some (.int .i64 t) ∧ W.cell? ⟨g, 2, none⟩ = some (.int .i64 a) ∧ W.cell? ⟨g, 3, none⟩ = some (.int .i64 b) ∧ W.cell? ⟨g, 4, none⟩ = some (.string S) ∧ W.cell? ⟨g, 5, none⟩ = some (.int .i64 vk) from fun W h => by
    have q := ROW.out W h
    rw [ht, hk, ha, hb, hS, hvk]
    exact ⟨q.c0, q.c1, q.c2, q.c3, q.c4, q.c5⟩)
  rw [← hM, ← hk] at KN
  rw [← hM, ← hkn] at sn
  rw [← hfa, ← hk] at FA
  rw [← hfb, ← hk] at FB
  rw [← hfn, ← hk] at FN
  rw [← hfv, ← hk] at FV
  rw [← hS, ← hL1] at zn
  rw [← hS, ← hp1] at en
  rw [← hve] at VC
  rw [← hfa, ← hfb, ← ht, ← ha, ← hb] at hC4
  rw [← hkn, ← hfn, ← hfv, ← hL1, ← hvk, ← hve] at hR
  obtain ⟨C8, hC8⟩ : ∃ C, C = ((!fn && !p1) || (!fv && (vk != 0))) := ⟨_, rfl⟩
  have hR2 : R = if kn = false then 9 else if C4 = true then 1 else if 64 < L1 then 2 else if C8 = true then 8 else ve := by
    rw [hR]
    have e1 : (x.name ≠ []) = (p1 = false) := by rw [hp1]; simp
    have e4 : ((p1 = false ∧ fn = false) ∨ (vk ≠ 0 ∧ fv = false)) = (C8 = true) := by
      rw [hC8]; exact c8_eq p1 fn fv vk
    have e5 : ((!C4) = false) = (C4 = true) := by cases C4 <;> simp
    simp only [e1, e4, e5]
  have HR := Lib.hid hR2
  have HC4 := Lib.hid hC4
  have HC8 := Lib.hid hC8
  have ZN := Lib.hid zn
  obtain ⟨q0, q1, q2, q3, q4, q5⟩ := D.out w1 (Below.refl _ _)
  clear hR hR2 hC4 hC8 hk hM hS hkn hfa hfb hfn hfv ht ha hb hL1 hvk hve hp1 hx zn q1 q2 q3 q4 q5
  go_enter Tryz.func21, Tryz.ntmps21
  go_upto_region 1 with fail
  rw [← Hw1.out, ← Hg.out]
  go_wp2_with fail
  refine KN.out.mono ?_
  rintro e w2 ⟨rfl, hb2⟩
  have B2 := Lib.hid hb2
  have RL := Lib.hid (Bw1.out.trans (hb2.mono Bw1.out.size))
  clear hb2 q0
  cases kn
  · have sn2 : (M.toList == []) = true := sn
    obtain rfl : R = 9 := HR.out
    go_wp2_with fail
    go_ret
    exact ⟨rfl, RL.out⟩
  have sn2 : (M.toList == []) = false := sn
  obtain ⟨q0, q1, q2, q3, q4, q5⟩ := D.out w2 B2.out
  have Q4 := Lib.hid q4
  have Q5 := Lib.hid q5
  clear q4 q5
  go_upto_region 4 with fail
  clear sn sn2
  go_cut [48] (fun s wx => s = .bool C4 ∧ wx = w2)
  case first =>
    by_cases h0 : t < 0
    · obtain rfl : C4 = true := by rw [HC4.out]; simp [h0]
      go_wp2_with fail
      go_meet
      all_goals exact ⟨rfl, rfl⟩
    by_cases h1 : 4611686018427387903 < t
    · obtain rfl : C4 = true := by rw [HC4.out]; simp [h0, h1]
      go_wp2_with fail
      go_meet
      all_goals exact ⟨rfl, rfl⟩
    by_cases h2 : a < 0
    · obtain rfl : C4 = true := by rw [HC4.out]; simp [h0, h1, h2]
      go_wp2_with fail
      go_meet
      all_goals exact ⟨rfl, rfl⟩
    by_cases h3 : b < 0
    · obtain rfl : C4 = true := by rw [HC4.out]; simp [h0, h1, h2, h3]
      go_wp2_with fail
      go_meet
      all_goals exact ⟨rfl, rfl⟩
    have d0 := decide_eq_false h0
    have d1 := decide_eq_false h1
    have d2 := decide_eq_false h2
    have d3 := decide_eq_false h3
    have HC := Lib.hid (show C4 = ((!fa && (a != 0)) || (!fb && (b != 0))) by rw [HC4.out, d0, d1, d2, d3]; simp)
    by_cases a0 : a = 0
    · subst a0
      by_cases b0 : b = 0
      · subst b0
        obtain rfl : C4 = false := by rw [HC.out]; simp
        cases fa <;> cases fb
        all_goals
          go_wp2_with (first | (with_reducible refine (FA.out _).mono ?_; rintro _ wz ⟨rfl, hwz⟩; have hwz2 := hwz.symm; subst hwz2; clear hwz) | (with_reducible refine (FB.out _).mono ?_; rintro _ wz ⟨rfl, hwz⟩; have hwz2 := hwz.symm; subst hwz2; clear hwz))
          go_meet
          all_goals exact ⟨rfl, rfl⟩
      · have b1 : (b == 0) = false := by simpa using b0
        have b2 : (b != 0) = true := by simpa using b0
        obtain rfl : C4 = !fb := by rw [HC.out, b2]; simp
        clear b0
        cases fa <;> cases fb
        all_goals
          go_wp2_with (first | (with_reducible refine (FA.out _).mono ?_; rintro _ wz ⟨rfl, hwz⟩; have hwz2 := hwz.symm; subst hwz2; clear hwz) | (with_reducible refine (FB.out _).mono ?_; rintro _ wz ⟨rfl, hwz⟩; have hwz2 := hwz.symm; subst hwz2; clear hwz))
          go_meet
          all_goals exact ⟨rfl, rfl⟩
    · have a1 : (a == 0) = false := by simpa using a0
      have a2 : (a != 0) = true := by simpa using a0
      clear a0
      cases fa
      · obtain rfl : C4 = true := by rw [HC.out, a2]; simp
        go_wp2_with (first | (with_reducible refine (FA.out _).mono ?_; rintro _ wz ⟨rfl, hwz⟩; have hwz2 := hwz.symm; subst hwz2; clear hwz) | (with_reducible refine (FB.out _).mono ?_; rintro _ wz ⟨rfl, hwz⟩; have hwz2 := hwz.symm; subst hwz2; clear hwz))
        go_meet
        all_goals exact ⟨rfl, rfl⟩
      · by_cases b0 : b = 0
        · subst b0
          obtain rfl : C4 = false := by rw [HC.out]; simp
          cases fb
          all_goals
            go_wp2_with (first | (with_reducible refine (FA.out _).mono ?_; rintro _ wz ⟨rfl, hwz⟩; have hwz2 := hwz.symm; subst hwz2; clear hwz) | (with_reducible refine (FB.out _).mono ?_; rintro _ wz ⟨rfl, hwz⟩; have hwz2 := hwz.symm; subst hwz2; clear hwz))
            go_meet
            all_goals exact ⟨rfl, rfl⟩
        · have b1 : (b == 0) = false := by simpa using b0
          have b2 : (b != 0) = true := by simpa using b0
          obtain rfl : C4 = !fb := by rw [HC.out, b2]; simp
          clear b0
          cases fb
          all_goals
            go_wp2_with (first | (with_reducible refine (FA.out _).mono ?_; rintro _ wz ⟨rfl, hwz⟩; have hwz2 := hwz.symm; subst hwz2; clear hwz) | (with_reducible refine (FB.out _).mono ?_; rintro _ wz ⟨rfl, hwz⟩; have hwz2 := hwz.symm; subst hwz2; clear hwz))
            go_meet
            all_goals exact ⟨rfl, rfl⟩
  case rest =>
    obtain ⟨rfl, hw⟩ := hcut
    have hw' := hw.symm
    subst hw'
    clear hw q1 q2 q3
    cases C4
    case true =>
      obtain rfl : R = 1 := HR.out
      go_wp2_with fail
      go_ret
      exact ⟨rfl, RL.out⟩
    case false =>
      have q4 := Q4.out
      have zn := ZN.out
      by_cases h1 : 64 < L1
      · obtain rfl : R = 2 := by rw [HR.out]; simp [h1]
        have h1' : (64 : Int) < (S.size : Int) := by omega
        go_wp2_with fail
        go_ret
        exact ⟨rfl, RL.out⟩
      have h1' : ¬ (64 : Int) < (S.size : Int) := by omega
      have HR2 := Lib.hid (show R = if C8 = true then 8 else ve by rw [HR.out]; simp [h1])
      clear HR h1 zn
      go_upto_region 8 with fail
      obtain ⟨vb, hvb⟩ : ∃ vb, vb = (vk != 0) := ⟨_, rfl⟩
      have v0 : (vk == 0) = !vb := by rw [hvb]; simp [bne]
      have HC := Lib.hid (show C8 = ((!fn && !p1) || (!fv && vb)) by rw [HC8.out, hvb])
      have v1 := hvb.symm
      clear hvb
      go_cut [71] (fun s wx => s = .bool C8 ∧ wx = w2)
      case first =>
        have q5 := Q5.out
        have w8 : fn = true ∨ (fn = false ∧ p1 = true) ∨ (fn = false ∧ p1 = false) := by cases p1 <;> cases fn <;> simp
        have wA : fv = true ∨ (fv = false ∧ vb = false) ∨ (fv = false ∧ vb = true) := by cases vb <;> cases fv <;> simp
        rcases w8 with h | h | h
        rotate_left 2
        · obtain ⟨rfl, rfl⟩ := h
          obtain rfl : C8 = true := by rw [HC.out]; simp
          go_wp2_with (first | (with_reducible refine (FN.out _).mono ?_; rintro _ wz ⟨rfl, hwz⟩; have hwz2 := hwz.symm; subst hwz2; clear hwz) | (with_reducible refine (FV.out _).mono ?_; rintro _ wz ⟨rfl, hwz⟩; have hwz2 := hwz.symm; subst hwz2; clear hwz))
          go_meet
          all_goals exact ⟨rfl, rfl⟩
        all_goals first | obtain rfl := h | obtain ⟨rfl, rfl⟩ := h
        all_goals
          rcases wA with h | h | h
          rotate_left 2
          · obtain ⟨rfl, rfl⟩ := h
            obtain rfl : C8 = true := by rw [HC.out]; simp
            go_wp2_with (first | (with_reducible refine (FN.out _).mono ?_; rintro _ wz ⟨rfl, hwz⟩; have hwz2 := hwz.symm; subst hwz2; clear hwz) | (with_reducible refine (FV.out _).mono ?_; rintro _ wz ⟨rfl, hwz⟩; have hwz2 := hwz.symm; subst hwz2; clear hwz))
            go_meet
            all_goals exact ⟨rfl, rfl⟩
          all_goals first | obtain rfl := h | obtain ⟨rfl, rfl⟩ := h
          all_goals
            obtain rfl : C8 = false := by rw [HC.out]; simp
            go_wp2_with (first | (with_reducible refine (FN.out _).mono ?_; rintro _ wz ⟨rfl, hwz⟩; have hwz2 := hwz.symm; subst hwz2; clear hwz) | (with_reducible refine (FV.out _).mono ?_; rintro _ wz ⟨rfl, hwz⟩; have hwz2 := hwz.symm; subst hwz2; clear hwz))
            go_meet
            all_goals exact ⟨rfl, rfl⟩
      case rest =>
        obtain ⟨rfl, hw⟩ := hcut
        have hw' := hw.symm
        subst hw'
        clear hw q4
        cases C8
        case true =>
          obtain rfl : R = 8 := HR2.out
          go_wp2_with fail
          go_ret
          exact ⟨rfl, RL.out⟩
        case false =>
          obtain rfl : R = ve := HR2.out
          have KV := Lib.hid (ROW.out w2 B2.out).cv
          have VV := Lib.hid (VC.out w2 B2.out)
          clear v0 v1
          go_wp2_with (with_reducible show wpList _ _ _ _ _ _; refine wpList_load_allW rfl 26 (.tmp 73) rfl ⟨g,5,none⟩ rfl x.val.cells _ KV.out Tryz.underlying26 rfl (Tryz.valSize x.val) ?_)
          refine VV.out.mono ?_
          rintro e w3 ⟨rfl, hb3⟩
          have RL2 := Lib.hid (RL.out.trans (hb3.mono RL.out.size))
          clear hb3
          go_wp2_with fail
          go_ret
          exact ⟨rfl, RL2.out⟩
end Go.Proofs.YtnfobnnbeefeeaaGreatDoor.Wi
