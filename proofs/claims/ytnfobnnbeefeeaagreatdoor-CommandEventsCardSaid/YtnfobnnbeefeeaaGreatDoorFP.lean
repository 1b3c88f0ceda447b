/- The reference's Line of commands. -/
import Derived.Test.YtnfobnnbeefeeaaGreatDoorFJ
import Derived.Test.YtnfobnnbeefeeaaGreatDoorGW
import Derived.Test.YtnfobnnbeefeeaaGreatDoorGB
namespace Go.Proofs.YtnfobnnbeefeeaaGreatDoor.Wi
open Go Go.RowKit
set_option linter.unusedVariables false
set_option linter.unusedSimpArgs false
set_option maxHeartbeats 16000000 in
set_option maxRecDepth 100000 in
theorem rcline_any (x : Cm) (N : Nat) (w : World) (hx : x.At N w) (hv : x.vE = 0) (hN : N ≤ w.heap.size) : Calls Tryz.prog 28 #[.agg x.cells.toArray] w fun e w' => e = .returned (.string (str x.ln)) ∧ Below w.heap.size w w' := by
  have FI := Cm.fits hv
  have HFine := Lib.hid (fine FI.val.1)
  have hle := cln_le hv hx
  obtain ⟨w1, hw1⟩ : ∃ bx, bx = w.alloc (.cells x.cells.toArray 42) := ⟨_, rfl⟩
  obtain ⟨g, hg⟩ : ∃ bx, bx = w.heap.size := ⟨_, rfl⟩
  have bw1 : Below w.heap.size w w1 := by rw [hw1]; exact (Below.refl _ _).alloc (Nat.le_refl _) _
  have nw1 : w1.heap[g]? = some (.cells x.cells.toArray 42 (0, 0)) := by rw [hw1, hg]; exact heap_alloc_new _ _
  have Kw1 := Lib.hid (rowC nw1)
  have Cw1 := Lib.hid (cmC nw1)
  have Hw1 := Lib.hid hw1
  have Hg := Lib.hid hg
  have Bw1 := Lib.hid bw1
  have Nw1 := Lib.hid nw1
  clear hw1 hg bw1 nw1
  have HX1 := Lib.hid (hx.below (Bw1.out.mono hN))
  have HN1 := Lib.hid (Nat.le_trans hN Bw1.out.size)
  have ROW := Lib.hid (fun (W : World) (h : Below w1.heap.size w1 W) => cmC ((h.block g (lt_of_rowK Nw1.out)).trans Nw1.out))
  have FA := Lib.hid (fun W => rcA_any x.kind W)
  have FB := Lib.hid (fun W => rcB_any x.kind W)
  have FN := Lib.hid (fun W => rcN_any x.kind W)
  have FV := Lib.hid (fun W => rcV_any x.kind W)
  have fnm := FI.name.1
  have hti := hx.time; have hki := hx.kind; have hai := hx.a; have hbi := hx.b
  obtain ⟨Q2, hQ2⟩ : ∃ Q, Q = [64] ++ Lib.itoa x.time ++ [32] ++ cNm x.kind := ⟨_, rfl⟩
  obtain ⟨QA, hQA⟩ : ∃ Q, Q = Q2 ++ oL (cA x.kind) (Lib.itoa x.a) := ⟨_, rfl⟩
  obtain ⟨QB, hQB⟩ : ∃ Q, Q = QA ++ oL (cB x.kind) (Lib.itoa x.b) := ⟨_, rfl⟩
  obtain ⟨QN, hQN⟩ : ∃ Q, Q = QB ++ oL (cN x.kind) (qt x.name) := ⟨_, rfl⟩
  obtain ⟨QV, hQV⟩ : ∃ Q, Q = QN ++ oL (cV x.kind) x.val.pv := ⟨_, rfl⟩
  have heb : x.ln = QV := by
    rw [hQV, hQN, hQB, hQA, hQ2]
    unfold Cm.ln
    simp only [List.append_assoc, List.cons_append, List.nil_append]
  rw [heb] at hle ⊢
  have ll : Q2.length ≤ QA.length ∧ QA.length ≤ QB.length ∧ QB.length ≤ QN.length ∧ QN.length ≤ QV.length ∧ QV.length ≤ 300000 := by
    refine ⟨?_, ?_, ?_, ?_, hle⟩
    · rw [hQA]; simp
    · rw [hQB]; simp
    · rw [hQN]; simp
    · rw [hQV]; simp
  obtain ⟨k, hk⟩ : ∃ k, k = x.kind := ⟨_, rfl⟩
  obtain ⟨t, ht⟩ : ∃ k, k = x.time := ⟨_, rfl⟩
  obtain ⟨T0, hT0⟩ : ∃ S, S = str (Lib.itoa x.time) := ⟨_, rfl⟩
  obtain ⟨A1, hA1⟩ : ∃ S, S = str ([64] ++ Lib.itoa x.time) := ⟨_, rfl⟩
  obtain ⟨A2, hA2⟩ : ∃ S, S = str ([64] ++ Lib.itoa x.time ++ [32]) := ⟨_, rfl⟩
  obtain ⟨M, hM⟩ : ∃ S, S = str (cNm x.kind) := ⟨_, rfl⟩
  obtain ⟨S2, hS2⟩ : ∃ S, S = str Q2 := ⟨_, rfl⟩
  obtain ⟨SA, hSA⟩ : ∃ S, S = str QA := ⟨_, rfl⟩
  obtain ⟨SB, hSB⟩ : ∃ S, S = str QB := ⟨_, rfl⟩
  obtain ⟨SN, hSN⟩ : ∃ S, S = str QN := ⟨_, rfl⟩
  obtain ⟨SV, hSV⟩ : ∃ S, S = str QV := ⟨_, rfl⟩
  obtain ⟨ZA, hZA⟩ : ∃ S, S = str (Lib.itoa x.a) := ⟨_, rfl⟩
  obtain ⟨ZB, hZB⟩ : ∃ S, S = str (Lib.itoa x.b) := ⟨_, rfl⟩
  obtain ⟨ZN, hZN⟩ : ∃ S, S = str (qt x.name) := ⟨_, rfl⟩
  obtain ⟨ZV, hZV⟩ : ∃ S, S = str x.val.pv := ⟨_, rfl⟩
  have K0 := Lib.hid (show ∀ W, Below w1.heap.size w1 W → W.cell? ⟨g, 1, none⟩ = some (.int .i64 t) from fun W h => by rw [ht]; exact (ROW.out W h).c1)
  have c0 := Cw1.out.c0
  have C2 := Lib.hid (show ∀ W, Below w1.heap.size w1 W → Calls Tryz.prog 82 #[.int .i64 t] W fun e w' => e = .returned (.string T0) ∧ Below W.heap.size W w' from fun W _ => by rw [ht, hT0]; exact rnumber_any x.time hti.1 hti.2 W)
  have C3 := Lib.hid (show ∀ W, Below w1.heap.size w1 W → Calls Tryz.prog 40 #[.int .i64 k] W fun e w' => e = .returned (.string M) ∧ Below W.heap.size W w' from fun W _ => by rw [hk, hM]; exact rcname_any x.kind hki W)
  have CA := Lib.hid (show ∀ W, Calls Tryz.prog 82 #[.int .i64 x.a] W fun e w' => e = .returned (.string ZA) ∧ Below W.heap.size W w' from fun W => by rw [hZA]; exact rnumber_any x.a hai.1 hai.2 W)
  have CBq := Lib.hid (show ∀ W, Calls Tryz.prog 82 #[.int .i64 x.b] W fun e w' => e = .returned (.string ZB) ∧ Below W.heap.size W w' from fun W => by rw [hZB]; exact rnumber_any x.b hbi.1 hbi.2 W)
  have CN := Lib.hid (show ∀ W, Calls Tryz.prog 83 #[.string (str x.name)] W fun e w' => e = .returned (.string ZN) ∧ Below W.heap.size W w' from fun W => by rw [hZN]; exact rquote_any x.name (by omega) W)
  have CV := Lib.hid (show ∀ W, Below w1.heap.size w1 W → Calls Tryz.prog 84 #[.agg x.val.cells.toArray] W fun e w' => e = .returned (.string ZV) ∧ Below W.heap.size W w' from fun W hW => by
    have h := rprint_any x.val N W (HX1.out.val.below (hW.mono HN1.out)) (Nat.le_trans HN1.out hW.size) (by have := HFine.out.pz; omega)
    unfold StrI at h
    rw [← hZV] at h; exact h)
  have a1 : (ByteArray.mk #[64]) ++ T0 = A1 := by rw [hT0, hA1]; exact str_appE [64] _
  have a2 : A1 ++ (ByteArray.mk #[32]) = A2 := by rw [hA1, hA2]; exact str_appE _ [32]
  have a4 : A2 ++ M = S2 := by rw [hA2, hM, hS2, hQ2, str_appE]
  have sp : ∀ l : List UInt8, (ByteArray.mk #[32]) ++ str l = str (32 :: l) := fun l => str_appE [32] l
  have aA : SA = if cA x.kind = true then S2 ++ ((ByteArray.mk #[32]) ++ ZA) else S2 := by rw [hSA, hQA, hZA, hS2, sp]; cases cA x.kind <;> simp [oL, str_appE]
  have aB : SB = if cB x.kind = true then SA ++ ((ByteArray.mk #[32]) ++ ZB) else SA := by rw [hSB, hQB, hZB, hSA, sp]; cases cB x.kind <;> simp [oL, str_appE]
  have aN : SN = if cN x.kind = true then SB ++ ((ByteArray.mk #[32]) ++ ZN) else SB := by rw [hSN, hQN, hZN, hSB, sp]; cases cN x.kind <;> simp [oL, str_appE]
  have aV : SV = if cV x.kind = true then SN ++ ((ByteArray.mk #[32]) ++ ZV) else SN := by rw [hSV, hQV, hZV, hSN, sp]; cases cV x.kind <;> simp [oL, str_appE]
  have y1 : 1 + T0.size = A1.size := by rw [← a1]; simp; rfl
  have y2 : A1.size + 1 = A2.size := by rw [← a2]; simp; rfl
  have y4 : A2.size + M.size = S2.size := by rw [← a4]; simp
  have zs : S2.size ≤ 300000 ∧ SA.size ≤ 300000 ∧ SB.size ≤ 300000 ∧ SN.size ≤ 300000 ∧ SV.size ≤ 300000 := by
    rw [hS2, hSA, hSB, hSN, hSV, str_sizeX, str_sizeX, str_sizeX, str_sizeX, str_sizeX]; omega
  have AQ1 := Lib.hid a1
  have AQ2 := Lib.hid a2
  have AQ4 := Lib.hid a4
  have ZZ := Lib.hid (show 1 + T0.size = A1.size ∧ A1.size + 1 = A2.size ∧ A2.size + M.size = S2.size ∧ S2.size ≤ 300000 ∧ SA.size ≤ 300000 ∧ SB.size ≤ 300000 ∧ SN.size ≤ 300000 ∧ SV.size ≤ 300000 from ⟨y1, y2, y4, zs⟩)
  obtain ⟨fa, hfa⟩ : ∃ f, f = cA x.kind := ⟨_, rfl⟩
  obtain ⟨fb, hfb⟩ : ∃ f, f = cB x.kind := ⟨_, rfl⟩
  obtain ⟨fn, hfn⟩ : ∃ f, f = cN x.kind := ⟨_, rfl⟩
  obtain ⟨fv, hfv⟩ : ∃ f, f = cV x.kind := ⟨_, rfl⟩
  rw [← hfa, ← hk] at FA
  rw [← hfb, ← hk] at FB
  rw [← hfn, ← hk] at FN
  rw [← hfv, ← hk] at FV
  rw [← hfa] at aA
  rw [← hfb] at aB
  rw [← hfn] at aN
  rw [← hfv] at aV
  rw [← hk] at c0
  have AA := Lib.hid aA
  have AB := Lib.hid aB
  have AN := Lib.hid aN
  have AV := Lib.hid aV
  rw [← hSV]
  clear hQ2 hQA hQB hQN hQV heb hle ll hk ht hA1 hT0 hA2 hM hS2 hSA hSB hSN hSV hZA hZB hZN hZV a1 a2 a4 sp aA aB aN aV y1 y2 y4 zs hfa hfb hfn hfv fnm hti hki hai hbi FI hx hv
  go_enter Tryz.func28, Tryz.ntmps28
  go_upto_region 1 with fail
  rw [← Hw1.out, ← Hg.out]
  go_upto_region 2 with fail
  clear c0
  have c1 := K0.out w1 (Below.refl _ _)
  have zz := ZZ.out
  have hz1 : ¬ maxLen < 1 + T0.size := by unfold maxLen; omega
  have hz2 : ¬ maxLen < A1.size + 1 := by unfold maxLen; omega
  have hz3 : ¬ maxLen < A2.size + M.size := by unfold maxLen; omega
  have HZ1 := Lib.hid hz1
  have HZ2 := Lib.hid hz2
  have HZ3 := Lib.hid hz3
  clear zz hz2 hz3
  go_wp2_with fail
  refine (C2.out w1 (Below.refl _ _)).mono ?_
  rintro e wa ⟨rfl, hba⟩
  have BA0 := Lib.hid hba
  clear hba c1
  have zz := ZZ.out
  have g1 : (ByteArray.mk #[64] ++ T0).size = A1.size := by rw [AQ1.out]
  have hz2 : ¬ maxLen < (ByteArray.mk #[64] ++ T0).size + 1 := by rw [g1]; exact HZ2.out
  have hz2b : ¬ maxLen < 1 + T0.size + 1 := by unfold maxLen; omega
  have hz5 : 1 + T0.size + 1 ≤ 300000 := by omega
  clear zz
  go_wp2_with fail
  rw [AQ1.out, AQ2.out]
  clear hz1 hz2 hz2b hz5 g1
  refine (C3.out wa BA0.out).mono ?_
  rintro e w3 ⟨rfl, hb3⟩
  have h3 := BA0.out.trans (hb3.mono BA0.out.size)
  have zz := ZZ.out
  have hz3 : ¬ maxLen < A2.size + M.size := by unfold maxLen; omega
  have hz5 : A2.size + M.size ≤ 300000 := by omega
  clear hb3 zz
  go_upto_region 3 with fail
  rw [AQ4.out]
  clear hz3 hz5
  have B0 := Lib.hid h3
  clear h3
  go_upto_if 16 with (with_reducible refine (FA.out _).mono ?_; rintro _ wz ⟨rfl, hwz⟩; have hwz2 := hwz.symm; subst hwz2; clear hwz)
  go_cut [4] (fun s wx => s = .string SA ∧ Below w1.heap.size w1 wx)
  case first =>
    cases fa
    · obtain rfl : SA = S2 := AA.out
      go_wp2_with fail
      go_meet
      all_goals exact ⟨rfl, B0.out⟩
    · have ha : SA = S2 ++ ((ByteArray.mk #[32]) ++ ZA) := AA.out
      have hsz : S2.size + (1 + ZA.size) ≤ 300000 := by
        have := ZZ.out
        have h2 : SA.size = S2.size + (1 + ZA.size) := by rw [ha]; simp; rfl
        omega
      have hz2 : ¬ maxLen < S2.size + (1 + ZA.size) := by unfold maxLen; omega
      have hz3 : ¬ maxLen < 1 + ZA.size := by unfold maxLen; omega
      have HSZ := Lib.hid hsz
      have HA := Lib.hid ha
      have cc := (ROW.out w3 B0.out).c2
      have CC := Lib.hid (CA.out w3)
      clear hsz ha
      go_wp2_with fail
      refine CC.out.mono ?_
      rintro e wy ⟨rfl, hy⟩
      have RL := Lib.hid (B0.out.trans (hy.mono B0.out.size))
      have hsz := HSZ.out
      clear hy
      go_wp2_with fail
      go_meet
      all_goals exact ⟨by rw [HA.out], RL.out⟩
  case rest =>
    obtain ⟨vA, rfl⟩ : ∃ wd : World, wd = wc := ⟨_, rfl⟩
    obtain ⟨rfl, hb⟩ := hcut
    have BA := Lib.hid hb
    clear hb B0
    go_upto_if 24 with (with_reducible refine (FB.out _).mono ?_; rintro _ wz ⟨rfl, hwz⟩; have hwz2 := hwz.symm; subst hwz2; clear hwz)
    go_cut [4] (fun s wx => s = .string SB ∧ Below w1.heap.size w1 wx)
    case first =>
      cases fb
      · obtain rfl : SB = SA := AB.out
        go_wp2_with fail
        go_meet
        all_goals exact ⟨rfl, BA.out⟩
      · have ha : SB = SA ++ ((ByteArray.mk #[32]) ++ ZB) := AB.out
        have hsz : SA.size + (1 + ZB.size) ≤ 300000 := by
          have := ZZ.out
          have h2 : SB.size = SA.size + (1 + ZB.size) := by rw [ha]; simp; rfl
          omega
        have hz2 : ¬ maxLen < SA.size + (1 + ZB.size) := by unfold maxLen; omega
        have hz3 : ¬ maxLen < 1 + ZB.size := by unfold maxLen; omega
        have HSZ := Lib.hid hsz
        have HA := Lib.hid ha
        have cc := (ROW.out vA BA.out).c3
        have CC := Lib.hid (CBq.out vA)
        clear hsz ha
        go_wp2_with fail
        refine CC.out.mono ?_
        rintro e wy ⟨rfl, hy⟩
        have RL := Lib.hid (BA.out.trans (hy.mono BA.out.size))
        have hsz := HSZ.out
        clear hy
        go_wp2_with fail
        go_meet
        all_goals exact ⟨by rw [HA.out], RL.out⟩
    case rest =>
      obtain ⟨vB, rfl⟩ : ∃ wd : World, wd = wc := ⟨_, rfl⟩
      obtain ⟨rfl, hb⟩ := hcut
      have BB := Lib.hid hb
      clear hb BA
      go_upto_if 32 with (with_reducible refine (FN.out _).mono ?_; rintro _ wz ⟨rfl, hwz⟩; have hwz2 := hwz.symm; subst hwz2; clear hwz)
      go_cut [4] (fun s wx => s = .string SN ∧ Below w1.heap.size w1 wx)
      case first =>
        cases fn
        · obtain rfl : SN = SB := AN.out
          go_wp2_with fail
          go_meet
          all_goals exact ⟨rfl, BB.out⟩
        · have ha : SN = SB ++ ((ByteArray.mk #[32]) ++ ZN) := AN.out
          have hsz : SB.size + (1 + ZN.size) ≤ 300000 := by
            have := ZZ.out
            have h2 : SN.size = SB.size + (1 + ZN.size) := by rw [ha]; simp; rfl
            omega
          have hz2 : ¬ maxLen < SB.size + (1 + ZN.size) := by unfold maxLen; omega
          have hz3 : ¬ maxLen < 1 + ZN.size := by unfold maxLen; omega
          have HSZ := Lib.hid hsz
          have HA := Lib.hid ha
          have cc := (ROW.out vB BB.out).c4
          have CC := Lib.hid (CN.out vB)
          clear hsz ha
          go_wp2_with fail
          refine CC.out.mono ?_
          rintro e wy ⟨rfl, hy⟩
          have RL := Lib.hid (BB.out.trans (hy.mono BB.out.size))
          have hsz := HSZ.out
          clear hy
          go_wp2_with fail
          go_meet
          all_goals exact ⟨by rw [HA.out], RL.out⟩
      case rest =>
        obtain ⟨vN, rfl⟩ : ∃ wd : World, wd = wc := ⟨_, rfl⟩
        obtain ⟨rfl, hb⟩ := hcut
        have BN := Lib.hid hb
        clear hb BB
        go_upto_if 40 with (with_reducible refine (FV.out _).mono ?_; rintro _ wz ⟨rfl, hwz⟩; have hwz2 := hwz.symm; subst hwz2; clear hwz)
        go_cut [4] (fun s wx => s = .string SV ∧ Below w1.heap.size w1 wx)
        case first =>
          cases fv
          · obtain rfl : SV = SN := AV.out
            go_wp2_with fail
            go_meet
            all_goals exact ⟨rfl, BN.out⟩
          · have ha : SV = SN ++ ((ByteArray.mk #[32]) ++ ZV) := AV.out
            have hsz : SN.size + (1 + ZV.size) ≤ 300000 := by
              have := ZZ.out
              have h2 : SV.size = SN.size + (1 + ZV.size) := by rw [ha]; simp; rfl
              omega
            have hz2 : ¬ maxLen < SN.size + (1 + ZV.size) := by unfold maxLen; omega
            have hz3 : ¬ maxLen < 1 + ZV.size := by unfold maxLen; omega
            have HSZ := Lib.hid hsz
            have HA := Lib.hid ha
            have KV := Lib.hid (ROW.out vN BN.out).cv
            have CC := Lib.hid (CV.out vN BN.out)
            clear hsz ha
            go_wp2_with (with_reducible show wpList _ _ _ _ _ _; refine wpList_load_allW rfl 26 (.tmp 42) rfl ⟨g,5,none⟩ rfl x.val.cells _ KV.out Tryz.underlying26 rfl (Tryz.valSize x.val) ?_)
            refine CC.out.mono ?_
            rintro e wy ⟨rfl, hy⟩
            have RL := Lib.hid (BN.out.trans (hy.mono BN.out.size))
            have hsz := HSZ.out
            clear hy
            go_wp2_with fail
            go_meet
            all_goals exact ⟨by rw [HA.out], RL.out⟩
        case rest =>
          obtain ⟨vV, rfl⟩ : ∃ wd : World, wd = wc := ⟨_, rfl⟩
          obtain ⟨rfl, hb⟩ := hcut
          have BV := Lib.hid hb
          clear hb BN
          go_wp2_with fail
          go_ret
          exact ⟨rfl, Bw1.out.trans (BV.out.mono Bw1.out.size)⟩
end Go.Proofs.YtnfobnnbeefeeaaGreatDoor.Wi
