/- The reference's Same and Bytes. -/
import Derived.Test.YtnfobnnbeefeeaaGreatDoorGP
import Derived.Test.YtnfobnnbeefeeaaGreatDoorGC
import Derived.Test.YtnfobnnbeefeeaaGreatDoorG1
import Derived.Test.YtnfobnnbeefeeaaGreatDoorG6
namespace Go.Proofs.YtnfobnnbeefeeaaGreatDoor.Wi
open Go Go.RowKit
set_option linter.unusedVariables false
set_option linter.unusedSimpArgs false
set_option maxHeartbeats 16000000 in
set_option maxRecDepth 100000 in
theorem rsame_any (x y : Ev) (hxk : x.val.Kin) (hyk : y.val.Kin) (N : Nat) (w : World) (hx : x.At N w) (hy : y.At N w) (hN : N ≤ w.heap.size) : Calls Tryz.prog 30 #[.agg x.cells.toArray, .agg y.cells.toArray] w fun e w' => e = .returned (.bool (x.same y)) ∧ Below w.heap.size w w' := by
  obtain ⟨R, hR⟩ : ∃ R, R = x.same y := ⟨_, rfl⟩
  rw [← hR]
  unfold Ev.same at hR
  obtain ⟨w1, hw1⟩ : ∃ bx, bx = w.alloc (.cells x.cells.toArray 28) := ⟨_, rfl⟩
  obtain ⟨g, hg⟩ : ∃ bx, bx = w.heap.size := ⟨_, rfl⟩
  have bw1 : Below w.heap.size w w1 := by rw [hw1]; exact (Below.refl _ _).alloc (Nat.le_refl _) _
  have nw1 : w1.heap[g]? = some (.cells x.cells.toArray 28 (0, 0)) := by rw [hw1, hg]; exact heap_alloc_new _ _
  have Kw1 := Lib.hid (rowE nw1)
  have Cw1 := Lib.hid (evC nw1)
  have Hw1 := Lib.hid hw1
  have Hg := Lib.hid hg
  have Bw1 := Lib.hid bw1
  have Nw1 := Lib.hid nw1
  clear hw1 hg bw1 nw1
  obtain ⟨w2, hw2⟩ : ∃ bx, bx = w1.alloc (.cells y.cells.toArray 28) := ⟨_, rfl⟩
  obtain ⟨g2, hg2⟩ : ∃ bx, bx = w1.heap.size := ⟨_, rfl⟩
  have bw2 : Below w1.heap.size w1 w2 := by rw [hw2]; exact (Below.refl _ _).alloc (Nat.le_refl _) _
  have nw2 : w2.heap[g2]? = some (.cells y.cells.toArray 28 (0, 0)) := by rw [hw2, hg2]; exact heap_alloc_new _ _
  have Kw2 := Lib.hid (rowE nw2)
  have Cw2 := Lib.hid (evC nw2)
  have Hw2 := Lib.hid hw2
  have Hg2 := Lib.hid hg2
  have Bw2 := Lib.hid bw2
  have Nw2 := Lib.hid nw2
  clear hw2 hg2 bw2 nw2
  have B2 := Lib.hid (Bw1.out.trans (Bw2.out.mono Bw1.out.size))
  have n12 := (Bw2.out.block g (lt_of_rowK Nw1.out)).trans Nw1.out
  have Cx := Lib.hid (evC n12)
  have VS := Lib.hid (rcompare_any x.val y.val N w2 hxk hyk (hx.val.below (B2.out.mono hN)) (hy.val.below (B2.out.mono hN)) (Nat.le_trans hN B2.out.size))
  obtain ⟨vc, hvc⟩ : ∃ vc, vc = decide (x.val.cmp y.val = 0) := ⟨_, rfl⟩
  rw [← hvc] at hR
  have hsg := rcmp_sg x.val y.val
  have hz : (x.val.rcmp y.val == 0) = vc := by
    rw [hvc]
    obtain ⟨s1, s2⟩ := hsg
    apply Bool.eq_iff_iff.2
    rw [beq_iff_eq, decide_eq_true_eq]
    omega
  obtain ⟨rc, hrc⟩ : ∃ rc, rc = x.val.rcmp y.val := ⟨_, rfl⟩
  rw [← hrc] at VS hz
  clear n12 hvc hsg hrc hxk hyk hx hy
  have HG2b := Lib.hid (show g2 = w.heap.size + 1 by rw [Hg2.out, Hw1.out]; simp)
  have KX := Lib.hid Cx.out.cv
  have KY := Lib.hid Cw2.out.cv
  have c0 := Cx.out.c0
  have d0 := Cw2.out.c0
  obtain ⟨p0, hp0⟩ : ∃ p, p = x.id := ⟨_, rfl⟩
  obtain ⟨q0, hq0⟩ : ∃ p, p = y.id := ⟨_, rfl⟩
  rw [← hp0] at c0 hR
  rw [← hq0] at d0 hR
  clear hp0 hq0
  have c1 := Cx.out.c1
  have d1 := Cw2.out.c1
  obtain ⟨p1, hp1⟩ : ∃ p, p = x.time := ⟨_, rfl⟩
  obtain ⟨q1, hq1⟩ : ∃ p, p = y.time := ⟨_, rfl⟩
  rw [← hp1] at c1 hR
  rw [← hq1] at d1 hR
  clear hp1 hq1
  have c2 := Cx.out.c2
  have d2 := Cw2.out.c2
  obtain ⟨p2, hp2⟩ : ∃ p, p = x.kind := ⟨_, rfl⟩
  obtain ⟨q2, hq2⟩ : ∃ p, p = y.kind := ⟨_, rfl⟩
  rw [← hp2] at c2 hR
  rw [← hq2] at d2 hR
  clear hp2 hq2
  have c3 := Cx.out.c3
  have d3 := Cw2.out.c3
  obtain ⟨p3, hp3⟩ : ∃ p, p = x.a := ⟨_, rfl⟩
  obtain ⟨q3, hq3⟩ : ∃ p, p = y.a := ⟨_, rfl⟩
  rw [← hp3] at c3 hR
  rw [← hq3] at d3 hR
  clear hp3 hq3
  have c4 := Cx.out.c4
  have d4 := Cw2.out.c4
  obtain ⟨p4, hp4⟩ : ∃ p, p = x.b := ⟨_, rfl⟩
  obtain ⟨q4, hq4⟩ : ∃ p, p = y.b := ⟨_, rfl⟩
  rw [← hp4] at c4 hR
  rw [← hq4] at d4 hR
  clear hp4 hq4
  have c5 := Cx.out.c5
  have d5 := Cw2.out.c5
  have s5 := str_eqE x.name y.name
  obtain ⟨p5, hp5⟩ : ∃ p, p = str x.name := ⟨_, rfl⟩
  obtain ⟨q5, hq5⟩ : ∃ p, p = str y.name := ⟨_, rfl⟩
  obtain ⟨t5, ht5⟩ : ∃ p, p = (x.name == y.name) := ⟨_, rfl⟩
  rw [← hp5] at c5 s5
  rw [← hq5] at d5 s5
  rw [← ht5] at s5 hR
  clear hp5 hq5 ht5
  have c6 := Cx.out.c6
  have d6 := Cw2.out.c6
  have s6 := str_eqE x.text y.text
  obtain ⟨p6, hp6⟩ : ∃ p, p = str x.text := ⟨_, rfl⟩
  obtain ⟨q6, hq6⟩ : ∃ p, p = str y.text := ⟨_, rfl⟩
  obtain ⟨t6, ht6⟩ : ∃ p, p = (x.text == y.text) := ⟨_, rfl⟩
  rw [← hp6] at c6 s6
  rw [← hq6] at d6 s6
  rw [← ht6] at s6 hR
  clear hp6 hq6 ht6
  go_enter Tryz.func30, Tryz.ntmps30
  go_upto_region 1 with fail
  rw [← Hw1.out, ← HG2b.out, ← Hg.out, ← Hw2.out]
  by_cases h0 : (p0 == q0) = true
  case neg =>
    have h0' : (p0 == q0) = false := by simpa using h0
    obtain rfl : R = false := by rw [hR]; simp [h0']
    clear hR h0
    go_wp2_with fail
    go_ret
    exact ⟨rfl, B2.out⟩
  by_cases h1 : (p1 == q1) = true
  case neg =>
    have h1' : (p1 == q1) = false := by simpa using h1
    obtain rfl : R = false := by rw [hR]; simp [h0, h1']
    clear hR h1
    go_wp2_with fail
    go_ret
    exact ⟨rfl, B2.out⟩
  by_cases h2 : (p2 == q2) = true
  case neg =>
    have h2' : (p2 == q2) = false := by simpa using h2
    obtain rfl : R = false := by rw [hR]; simp [h0, h1, h2']
    clear hR h2
    go_wp2_with fail
    go_ret
    exact ⟨rfl, B2.out⟩
  by_cases h3 : (p3 == q3) = true
  case neg =>
    have h3' : (p3 == q3) = false := by simpa using h3
    obtain rfl : R = false := by rw [hR]; simp [h0, h1, h2, h3']
    clear hR h3
    go_wp2_with fail
    go_ret
    exact ⟨rfl, B2.out⟩
  by_cases h4 : (p4 == q4) = true
  case neg =>
    have h4' : (p4 == q4) = false := by simpa using h4
    obtain rfl : R = false := by rw [hR]; simp [h0, h1, h2, h3, h4']
    clear hR h4
    go_wp2_with fail
    go_ret
    exact ⟨rfl, B2.out⟩
  cases t5
  · obtain rfl : R = false := by rw [hR]; simp
    clear hR
    go_wp2_with fail
    go_ret
    exact ⟨rfl, B2.out⟩
  cases t6
  · obtain rfl : R = false := by rw [hR]; simp
    clear hR
    go_wp2_with fail
    go_ret
    exact ⟨rfl, B2.out⟩
  obtain rfl : R = vc := by rw [hR]; simp [h0, h1, h2, h3, h4]
  clear hR
  go_wp2_with (first | (with_reducible show wpList _ _ _ _ _ _; refine wpList_loadWanted (by with_unfolding_all rfl) 26 (.tmp 53) rfl ⟨g,7,none⟩ (by with_unfolding_all rfl) x.val.cells _ KX.out Tryz.underlying26 rfl (Tryz.valSize x.val) ?_) | (with_reducible show wpList _ _ _ _ _ _; refine wpList_loadWanted (by with_unfolding_all rfl) 26 (.tmp 55) rfl ⟨g2,7,none⟩ (by with_unfolding_all rfl) y.val.cells _ KY.out Tryz.underlying26 rfl (Tryz.valSize y.val) ?_))
  refine VS.out.mono ?_
  rintro e w3 ⟨rfl, hb3⟩
  have RL := Lib.hid (B2.out.trans (hb3.mono B2.out.size))
  clear hb3
  go_wp2_with fail
  go_ret
  exact ⟨rfl, RL.out⟩
set_option maxHeartbeats 16000000 in
set_option maxRecDepth 100000 in
theorem rbytesE_any (x : Ev) (N : Nat) (w : World) (hx : x.At N w) (hv : x.vE = 0) (hN : N ≤ w.heap.size) : Calls Tryz.prog 17 #[.agg x.cells.toArray] w fun e w' => e = .returned (.string (str x.eb)) ∧ Below w.heap.size w w' := by
  have FI := Ev.fits hv
  have HFine := Lib.hid (fine FI.val.1)
  have hle := eb_len hv
  obtain ⟨w1, hw1⟩ : ∃ bx, bx = w.alloc (.cells x.cells.toArray 28) := ⟨_, rfl⟩
  obtain ⟨g, hg⟩ : ∃ bx, bx = w.heap.size := ⟨_, rfl⟩
  have bw1 : Below w.heap.size w w1 := by rw [hw1]; exact (Below.refl _ _).alloc (Nat.le_refl _) _
  have nw1 : w1.heap[g]? = some (.cells x.cells.toArray 28 (0, 0)) := by rw [hw1, hg]; exact heap_alloc_new _ _
  have Kw1 := Lib.hid (rowE nw1)
  have Cw1 := Lib.hid (evC nw1)
  have Hw1 := Lib.hid hw1
  have Hg := Lib.hid hg
  have Bw1 := Lib.hid bw1
  have Nw1 := Lib.hid nw1
  clear hw1 hg bw1 nw1
  have HX1 := Lib.hid (hx.below (Bw1.out.mono hN))
  have HN1 := Lib.hid (Nat.le_trans hN Bw1.out.size)
  have ROW := Lib.hid (fun (W : World) (h : Below w1.heap.size w1 W) => evC ((h.block g (lt_of_rowK Nw1.out)).trans Nw1.out))
  have FA := Lib.hid (fun W => rA_any x.kind W)
  have FB := Lib.hid (fun W => rB_any x.kind W)
  have FN := Lib.hid (fun W => rN_any x.kind W)
  have FT := Lib.hid (fun W => rT_any x.kind W)
  have FV := Lib.hid (fun W => rV_any x.kind W)
  have NU := Lib.hid (fun (n : Nat) (h : n < 18446744073709551616) (W : World) => refNum_any n h W)
  have fkn := FI.kn; have fid := FI.id; have fti := FI.time; have fa0 := FI.a.1; have fb0 := FI.b.1; have ma := hx.a.2; have mb := hx.b.2; have fnm := FI.name.1; have ftx := FI.text.1
  obtain ⟨Q0, hQ0⟩ : ∃ Q, Q = [UInt8.ofNat x.kind.toNat] := ⟨_, rfl⟩
  obtain ⟨Q1, hQ1⟩ : ∃ Q, Q = Q0 ++ enc x.id.toNat := ⟨_, rfl⟩
  obtain ⟨Q2, hQ2⟩ : ∃ Q, Q = Q1 ++ enc x.time.toNat := ⟨_, rfl⟩
  obtain ⟨QA, hQA⟩ : ∃ Q, Q = Q2 ++ oI (eA x.kind) (enc x.a.toNat) := ⟨_, rfl⟩
  obtain ⟨QB, hQB⟩ : ∃ Q, Q = QA ++ oI (eB x.kind) (enc x.b.toNat) := ⟨_, rfl⟩
  obtain ⟨QN, hQN⟩ : ∃ Q, Q = QB ++ oI (eN x.kind) (enc x.name.length ++ x.name) := ⟨_, rfl⟩
  obtain ⟨QT, hQT⟩ : ∃ Q, Q = QN ++ oI (eT x.kind) (enc x.text.length ++ x.text) := ⟨_, rfl⟩
  obtain ⟨QV, hQV⟩ : ∃ Q, Q = QT ++ oI (eV x.kind) x.val.vb := ⟨_, rfl⟩
  have heb : x.eb = QV := by
    rw [hQV, hQT, hQN, hQB, hQA, hQ2, hQ1, hQ0]
    unfold Ev.eb
    simp only [List.append_assoc, List.cons_append, List.nil_append]
  rw [heb] at hle ⊢
  have ll : Q0.length ≤ Q1.length ∧ Q1.length ≤ Q2.length ∧ Q2.length ≤ QA.length ∧ QA.length ≤ QB.length ∧ QB.length ≤ QN.length ∧ QN.length ≤ QT.length ∧ QT.length ≤ QV.length ∧ QV.length ≤ 800 := by
    refine ⟨?_, ?_, ?_, ?_, ?_, ?_, ?_, hle⟩
    · rw [hQ1]; simp
    · rw [hQ2]; simp
    · rw [hQA]; simp
    · rw [hQB]; simp
    · rw [hQN]; simp
    · rw [hQT]; simp
    · rw [hQV]; simp
  have c2 := Cw1.out.c2
  obtain ⟨k, hk⟩ : ∃ k, k = x.kind := ⟨_, rfl⟩
  obtain ⟨i, hi⟩ : ∃ k, k = x.id := ⟨_, rfl⟩
  obtain ⟨t, ht⟩ : ∃ k, k = x.time := ⟨_, rfl⟩
  obtain ⟨S0, hS0⟩ : ∃ S, S = str Q0 := ⟨_, rfl⟩
  obtain ⟨S1, hS1⟩ : ∃ S, S = str Q1 := ⟨_, rfl⟩
  obtain ⟨S2, hS2⟩ : ∃ S, S = str Q2 := ⟨_, rfl⟩
  obtain ⟨SA, hSA⟩ : ∃ S, S = str QA := ⟨_, rfl⟩
  obtain ⟨SB, hSB⟩ : ∃ S, S = str QB := ⟨_, rfl⟩
  obtain ⟨SN, hSN⟩ : ∃ S, S = str QN := ⟨_, rfl⟩
  obtain ⟨ST, hST⟩ : ∃ S, S = str QT := ⟨_, rfl⟩
  obtain ⟨SV, hSV⟩ : ∃ S, S = str QV := ⟨_, rfl⟩
  obtain ⟨Z1, hZ1⟩ : ∃ S, S = str (enc x.id.toNat) := ⟨_, rfl⟩
  obtain ⟨Z2, hZ2⟩ : ∃ S, S = str (enc x.time.toNat) := ⟨_, rfl⟩
  obtain ⟨ZA, hZA⟩ : ∃ S, S = str (enc x.a.toNat) := ⟨_, rfl⟩
  obtain ⟨ZB, hZB⟩ : ∃ S, S = str (enc x.b.toNat) := ⟨_, rfl⟩
  obtain ⟨ZN, hZN⟩ : ∃ S, S = str (enc x.name.length ++ x.name) := ⟨_, rfl⟩
  obtain ⟨ZT, hZT⟩ : ∃ S, S = str (enc x.text.length ++ x.text) := ⟨_, rfl⟩
  obtain ⟨ZV, hZV⟩ : ∃ S, S = str x.val.vb := ⟨_, rfl⟩
  have K01 := Lib.hid (show ∀ W, Below w1.heap.size w1 W → W.cell? ⟨g, 0, none⟩ = some (.int .i64 i) ∧ W.cell? ⟨g, 1, none⟩ = some (.int .i64 t) from fun W h => by rw [hi, ht]; exact ⟨(ROW.out W h).c0, (ROW.out W h).c1⟩)
  have C1 := Lib.hid (show ∀ W, Calls Tryz.prog 60 #[.int .u64 i] W fun e w' => e = .returned (.string Z1) ∧ Below W.heap.size W w' from fun W => by
    have h := NU.out x.id.toNat (by omega) W
    rw [show ((x.id.toNat : Nat) : Int) = i by omega, ← hZ1] at h; exact h)
  have C2 := Lib.hid (show ∀ W, Calls Tryz.prog 60 #[.int .u64 t] W fun e w' => e = .returned (.string Z2) ∧ Below W.heap.size W w' from fun W => by
    have h := NU.out x.time.toNat (by omega) W
    rw [show ((x.time.toNat : Nat) : Int) = t by omega, ← hZ2] at h; exact h)
  have CA := Lib.hid (show ∀ W, Calls Tryz.prog 60 #[.int .u64 x.a] W fun e w' => e = .returned (.string ZA) ∧ Below W.heap.size W w' from fun W => by
    have h := NU.out x.a.toNat (by omega) W
    rw [show ((x.a.toNat : Nat) : Int) = x.a by omega, ← hZA] at h; exact h)
  have CB := Lib.hid (show ∀ W, Calls Tryz.prog 60 #[.int .u64 x.b] W fun e w' => e = .returned (.string ZB) ∧ Below W.heap.size W w' from fun W => by
    have h := NU.out x.b.toNat (by omega) W
    rw [show ((x.b.toNat : Nat) : Int) = x.b by omega, ← hZB] at h; exact h)
  have CN := Lib.hid (show ∀ W, Calls Tryz.prog 61 #[.string (str x.name)] W fun e w' => e = .returned (.string ZN) ∧ Below W.heap.size W w' from fun W => by
    have h := refText_any (str x.name) (by rw [str_sizeX]; omega) W
    rw [str_sizeX, str_appE, ← hZN] at h; exact h)
  have CX := Lib.hid (show ∀ W, Calls Tryz.prog 61 #[.string (str x.text)] W fun e w' => e = .returned (.string ZT) ∧ Below W.heap.size W w' from fun W => by
    have h := refText_any (str x.text) (by rw [str_sizeX]; omega) W
    rw [str_sizeX, str_appE, ← hZT] at h; exact h)
  have CV := Lib.hid (show ∀ W, Below w1.heap.size w1 W → Calls Tryz.prog 62 #[.agg x.val.cells.toArray] W fun e w' => e = .returned (.string ZV) ∧ Below W.heap.size W w' from fun W hW => by
    have h := rbytes_any x.val N W (HX1.out.val.below (hW.mono HN1.out)) HFine.out.kin (by have := HFine.out.vb; omega) (Nat.le_trans HN1.out hW.size)
    unfold StrI at h
    rw [← hZV] at h; exact h)
  have a1 : S0 ++ Z1 = S1 := by rw [hS0, hZ1, hS1, hQ1, str_appE]
  have a2 : S1 ++ Z2 = S2 := by rw [hS1, hZ2, hS2, hQ2, str_appE]
  have aA : SA = if eA x.kind = true then S2 ++ ZA else S2 := by rw [hSA, hQA, hZA, hS2]; cases eA x.kind <;> simp [oI, str_appE]
  have aB : SB = if eB x.kind = true then SA ++ ZB else SA := by rw [hSB, hQB, hZB, hSA]; cases eB x.kind <;> simp [oI, str_appE]
  have aN : SN = if eN x.kind = true then SB ++ ZN else SB := by rw [hSN, hQN, hZN, hSB]; cases eN x.kind <;> simp [oI, str_appE]
  have aT : ST = if eT x.kind = true then SN ++ ZT else SN := by rw [hST, hQT, hZT, hSN]; cases eT x.kind <;> simp [oI, str_appE]
  have aV : SV = if eV x.kind = true then ST ++ ZV else ST := by rw [hSV, hQV, hZV, hST]; cases eV x.kind <;> simp [oI, str_appE]
  have z0 : S0.size + Z1.size = S1.size := by rw [← a1]; simp
  have z1 : S1.size + Z2.size = S2.size := by rw [← a2]; simp
  have zs : S1.size ≤ 800 ∧ S2.size ≤ 800 ∧ SA.size ≤ 800 ∧ SB.size ≤ 800 ∧ SN.size ≤ 800 ∧ ST.size ≤ 800 ∧ SV.size ≤ 800 := by
    rw [hS1, hS2, hSA, hSB, hSN, hST, hSV, str_sizeX, str_sizeX, str_sizeX, str_sizeX, str_sizeX, str_sizeX, str_sizeX]; omega
  have CO := Lib.hid (show ∀ (W : World) g8, W.heap[g8]? = some (.cells #[.int .u8 k] 5 (0, 0)) → (convert 36 9 (.slice (some ⟨g8, 0, none⟩) 1 1)).run Tryz.prog W = .ok (.string S0) W from fun W g8 h8 => by
    rw [hS0, hQ0]
    refine run_convert_sl rfl (fun e => by cases e) (fun a ha j u hu => ?_)
    cases ha
    rw [Addr.add_mid, Nat.zero_add, cell_of_rowW W g8 j _ _ _ h8]
    match j, hu with
    | 0, hu =>
      obtain rfl := Option.some.inj hu
      show some (Value.int .u8 k) = some (bv _)
      unfold bv
      rw [hk, u8_kd fkn]
    | j + 1, hu => simp [bvs] at hu)
  have A1 := Lib.hid a1
  have A2 := Lib.hid a2
  have ZZ := Lib.hid (show S0.size + Z1.size = S1.size ∧ S1.size + Z2.size = S2.size ∧ S1.size ≤ 800 ∧ S2.size ≤ 800 ∧ SA.size ≤ 800 ∧ SB.size ≤ 800 ∧ SN.size ≤ 800 ∧ ST.size ≤ 800 ∧ SV.size ≤ 800 from ⟨z0, z1, zs⟩)
  have BD := Lib.hid (show (1 ≤ k ∧ k ≤ 21) ∧ (1 ≤ i ∧ i ≤ 1048576) ∧ (0 ≤ t ∧ t ≤ 4611686018427387903) ∧ (0 ≤ x.a ∧ x.a ≤ 9223372036854775807) ∧ (0 ≤ x.b ∧ x.b ≤ 9223372036854775807) from by rw [hk, hi, ht]; exact ⟨fkn, fid, fti, ⟨fa0, ma⟩, fb0, mb⟩)
  obtain ⟨fa, hfa⟩ : ∃ f, f = eA x.kind := ⟨_, rfl⟩
  obtain ⟨fb, hfb⟩ : ∃ f, f = eB x.kind := ⟨_, rfl⟩
  obtain ⟨fn, hfn⟩ : ∃ f, f = eN x.kind := ⟨_, rfl⟩
  obtain ⟨ft, hft⟩ : ∃ f, f = eT x.kind := ⟨_, rfl⟩
  obtain ⟨fv, hfv⟩ : ∃ f, f = eV x.kind := ⟨_, rfl⟩
  rw [← hfa, ← hk] at FA
  rw [← hfb, ← hk] at FB
  rw [← hfn, ← hk] at FN
  rw [← hft, ← hk] at FT
  rw [← hfv, ← hk] at FV
  rw [← hfa] at aA
  rw [← hfb] at aB
  rw [← hfn] at aN
  rw [← hft] at aT
  rw [← hfv] at aV
  have AA := Lib.hid aA
  have AB := Lib.hid aB
  have AN := Lib.hid aN
  have AT := Lib.hid aT
  have AV := Lib.hid aV
  rw [← hSV]
  rw [← hk] at c2
  clear hQ0 hQ1 hQ2 hQA hQB hQN hQT hQV heb hle ll hk hi ht hS0 hS1 hS2 hSA hSB hSN hST hSV hZ1 hZ2 hZA hZB hZN hZT hZV a1 a2 aA aB aN aT aV z0 z1 zs hfa hfb hfn hft hfv fkn fid fti fa0 fb0 ma mb fnm ftx FI hx hv NU
  go_enter Tryz.func17, Tryz.ntmps17
  go_upto_region 1 with fail
  rw [← Hw1.out, ← Hg.out]
  go_upto_region 2 with fail
  clear c2
  refine wp_region_slotsG (by kernel_rfl) (by kernel_rfl)
    (fun y => ⟨#[.agg x.cells.toArray, .pointer (some ⟨g, 0, none⟩), .string ⟨#[]⟩, .int .i64 k, y 14, .pointer (some ⟨g, 2, none⟩), .int .i64 k, y 0, y 1, y 2, y 3, y 4, y 5, y 6, y 7, y 8, y 9, y 10, y 11, y 12, y 13, undef, undef, undef, undef, undef, undef, undef, undef, undef, undef, undef, undef, undef, undef, undef, undef, undef, undef, undef, undef, undef, undef, undef, undef, undef, undef, undef, undef, undef, undef, undef, undef, undef, undef, undef, undef, undef, undef], []⟩)
    (fun j q W => match j with | 0 => q = .int .i64 k | 1 => q = .int .u8 k | 2 => ∃ g8, q = .slice (some ⟨g8, 0, none⟩) 1 1 ∧ W.heap[g8]? = some (.cells #[.int .u8 k] 5 (0, 0)) | 3 => q = .string S0 | 4 => q = .pointer (some ⟨g, 0, none⟩) | 5 => q = .int .i64 i | 6 => q = .int .u64 i | 7 => q = .string Z1 | 8 => q = .string S1 | 9 => q = .pointer (some ⟨g, 1, none⟩) | 10 => q = .int .i64 t | 11 => q = .int .u64 t | 12 => q = .string Z2 | 13 => q = .string S2 | 14 => q = .string S2 | _ => True)
    (fun L W => Below w1.heap.size w1 W) (fun W W' => Below W.heap.size W W') ?_ ?_ ?_ (fun _ => undef) rfl (below_drewG (Below.refl _ _) 1)
  · intro j q W W' hr hf
    match j, hf with
    | 2, ⟨g8, h1, h3⟩ => exact ⟨g8, h1, (hr.block g8 (lt_of_rowW h3)).trans h3⟩
    | 0, h => exact h
    | 1, h => exact h
    | 3, h => exact h
    | 4, h => exact h
    | 5, h => exact h
    | 6, h => exact h
    | 7, h => exact h
    | 8, h => exact h
    | 9, h => exact h
    | 10, h => exact h
    | 11, h => exact h
    | 12, h => exact h
    | 13, h => exact h
    | 14, h => exact h
    | k + 15, _ => trivial
  · intro i' o ho L y wx hd hi' hx hs
    match i', ho with
    | 0, ho =>
      obtain rfl := Option.some.inj ho
      refine .inl ⟨rfl, ?_⟩
      exact slot_run (v := .int .i64 k) (w' := wx) rfl ⟨_, rfl, Below.refl _ _, rfl, hs⟩
    | 1, ho =>
      obtain rfl := Option.some.inj ho
      refine .inl ⟨rfl, ?_⟩
      have y0 : y 0 = .int .i64 k := hx 0 (hd ⟨0, .data⟩ (by simp) rfl)
      have bk := BD.out.1
      refine slot_run (v := .int .u8 k) (w' := wx) ?_ ⟨_, rfl, Below.refl _ _, rfl, hs⟩
      refine runWithK (fun z => match z with | .tmp 7 => y 0 | .const c => c | _ => undef) (by kernel_rfl) ?_
      rw [y0]
      go_simp
      simp [IntKind.wrap, IntKind.bits, IntKind.signed]
      omega
    | 2, ho =>
      obtain rfl := Option.some.inj ho
      refine .inl ⟨rfl, ?_⟩
      have y0 : y 1 = .int .u8 k := hx 1 (hd ⟨1, .data⟩ (by simp) rfl)
      have hb : Below wx.heap.size wx (wx.alloc (.cells #[.int .u8 k] 5)) := (Below.refl _ _).alloc (Nat.le_refl _) _
      refine slot_run (v := .slice (some ⟨wx.heap.size, 0, none⟩) 1 1) (w' := wx.alloc (.cells #[.int .u8 k] 5)) ?_ ⟨_, rfl, hb, ⟨_, rfl, heap_alloc_new _ _⟩, hs.trans (hb.mono hs.size)⟩
      refine runWithK (fun z => match z with | .tmp 8 => y 1 | .const c => c | _ => undef) (by kernel_rfl) ?_
      rw [y0]
      go_simp
    | 3, ho =>
      obtain rfl := Option.some.inj ho
      refine .inl ⟨rfl, ?_⟩
      obtain ⟨g8, y0, h8⟩ := hx 2 (hd ⟨2, .data⟩ (by simp) rfl)
      have cv := CO.out wx g8 h8
      refine slot_run (v := .string S0) (w' := wx) ?_ ⟨_, rfl, Below.refl _ _, rfl, hs⟩
      refine runWithK (fun z => match z with | .tmp 9 => y 2 | .const c => c | _ => undef) (by kernel_rfl) ?_
      rw [y0]
      go_simp
    | 4, ho =>
      obtain rfl := Option.some.inj ho
      refine .inl ⟨rfl, ?_⟩
      exact slot_run (v := .pointer (some ⟨g, 0, none⟩)) (w' := wx) rfl ⟨_, rfl, Below.refl _ _, rfl, hs⟩
    | 5, ho =>
      obtain rfl := Option.some.inj ho
      refine .inl ⟨rfl, ?_⟩
      have y0 : y 4 = .pointer (some ⟨g, 0, none⟩) := hx 4 (hd ⟨4, .data⟩ (by simp) rfl)
      have hc := (K01.out wx hs).1
      refine slot_run (v := .int .i64 i) (w' := wx) ?_ ⟨_, rfl, Below.refl _ _, rfl, hs⟩
      refine runWithK (fun z => match z with | .tmp 11 => y 4 | .const c => c | _ => undef) (by kernel_rfl) ?_
      rw [y0]
      go_simp
    | 6, ho =>
      obtain rfl := Option.some.inj ho
      refine .inl ⟨rfl, ?_⟩
      have y0 : y 5 = .int .i64 i := hx 5 (hd ⟨5, .data⟩ (by simp) rfl)
      have bk := BD.out.2.1
      refine slot_run (v := .int .u64 i) (w' := wx) ?_ ⟨_, rfl, Below.refl _ _, rfl, hs⟩
      refine runWithK (fun z => match z with | .tmp 12 => y 5 | .const c => c | _ => undef) (by kernel_rfl) ?_
      rw [y0]
      go_simp
      simp [IntKind.wrap, IntKind.bits, IntKind.signed]
      omega
    | 7, ho =>
      obtain rfl := Option.some.inj ho
      refine .inl ⟨rfl, ?_⟩
      have y0 : y 6 = .int .u64 i := hx 6 (hd ⟨6, .data⟩ (by simp) rfl)
      refine slot_call #[.int .u64 i] rfl Tryz.func60 (by kernel_rfl) (by kernel_rfl) (by simp [Act.eval, y0]) ?_
      refine (C1.out wx).mono ?_
      rintro e w' ⟨rfl, hb⟩
      exact ⟨_, rfl, _, rfl, hb, rfl, hs.trans (hb.mono hs.size)⟩
    | 8, ho =>
      obtain rfl := Option.some.inj ho
      refine .inl ⟨rfl, ?_⟩
      have y0 : y 3 = .string S0 := hx 3 (hd ⟨3, .data⟩ (by simp) rfl)
      have y1 : y 7 = .string Z1 := hx 7 (hd ⟨7, .data⟩ (by simp) rfl)
      have hz := ZZ.out
      have hz2 : ¬ maxLen < S0.size + Z1.size := by unfold maxLen; omega
      have hz3 : S0.size + Z1.size ≤ 9223372036854775807 := by omega
      refine slot_run (v := .string S1) (w' := wx) ?_ ⟨_, rfl, Below.refl _ _, rfl, hs⟩
      refine runWithK (fun z => match z with | .tmp 10 => y 3 | .tmp 14 => y 7 | .const c => c | _ => undef) (by kernel_rfl) ?_
      rw [y0, y1]
      rw [← A1.out]
      go_simp
      omega
    | 9, ho =>
      obtain rfl := Option.some.inj ho
      refine .inl ⟨rfl, ?_⟩
      exact slot_run (v := .pointer (some ⟨g, 1, none⟩)) (w' := wx) rfl ⟨_, rfl, Below.refl _ _, rfl, hs⟩
    | 10, ho =>
      obtain rfl := Option.some.inj ho
      refine .inl ⟨rfl, ?_⟩
      have y0 : y 9 = .pointer (some ⟨g, 1, none⟩) := hx 9 (hd ⟨9, .data⟩ (by simp) rfl)
      have hc := (K01.out wx hs).2
      refine slot_run (v := .int .i64 t) (w' := wx) ?_ ⟨_, rfl, Below.refl _ _, rfl, hs⟩
      refine runWithK (fun z => match z with | .tmp 16 => y 9 | .const c => c | _ => undef) (by kernel_rfl) ?_
      rw [y0]
      go_simp
    | 11, ho =>
      obtain rfl := Option.some.inj ho
      refine .inl ⟨rfl, ?_⟩
      have y0 : y 10 = .int .i64 t := hx 10 (hd ⟨10, .data⟩ (by simp) rfl)
      have bk := BD.out.2.2.1.1
      have bk2 : t < 9223372036854775808 := by have := BD.out.2.2.1.2; omega
      refine slot_run (v := .int .u64 t) (w' := wx) ?_ ⟨_, rfl, Below.refl _ _, rfl, hs⟩
      refine runWithK (fun z => match z with | .tmp 17 => y 10 | .const c => c | _ => undef) (by kernel_rfl) ?_
      rw [y0]
      go_simp
      simp [IntKind.wrap, IntKind.bits, IntKind.signed]
      omega
    | 12, ho =>
      obtain rfl := Option.some.inj ho
      refine .inl ⟨rfl, ?_⟩
      have y0 : y 11 = .int .u64 t := hx 11 (hd ⟨11, .data⟩ (by simp) rfl)
      refine slot_call #[.int .u64 t] rfl Tryz.func60 (by kernel_rfl) (by kernel_rfl) (by simp [Act.eval, y0]) ?_
      refine (C2.out wx).mono ?_
      rintro e w' ⟨rfl, hb⟩
      exact ⟨_, rfl, _, rfl, hb, rfl, hs.trans (hb.mono hs.size)⟩
    | 13, ho =>
      obtain rfl := Option.some.inj ho
      refine .inl ⟨rfl, ?_⟩
      have y0 : y 8 = .string S1 := hx 8 (hd ⟨8, .data⟩ (by simp) rfl)
      have y1 : y 12 = .string Z2 := hx 12 (hd ⟨12, .data⟩ (by simp) rfl)
      have hz := ZZ.out
      have hz2 : ¬ maxLen < S1.size + Z2.size := by unfold maxLen; omega
      have hz3 : S1.size + Z2.size ≤ 9223372036854775807 := by omega
      refine slot_run (v := .string S2) (w' := wx) ?_ ⟨_, rfl, Below.refl _ _, rfl, hs⟩
      refine runWithK (fun z => match z with | .tmp 15 => y 8 | .tmp 19 => y 12 | .const c => c | _ => undef) (by kernel_rfl) ?_
      rw [y0, y1]
      rw [← A2.out]
      go_simp
      omega
    | 14, ho =>
      obtain rfl := Option.some.inj ho
      refine .inl ⟨rfl, ?_⟩
      have y0 : y 13 = .string S2 := hx 13 (hd ⟨13, .data⟩ (by simp) rfl)
      refine slot_run (v := .string S2) (w' := wx) ?_ ⟨_, rfl, Below.refl _ _, rfl, hs⟩
      refine runWithK (fun z => match z with | .tmp 20 => y 13 | .const c => c | _ => undef) (by kernel_rfl) ?_
      rw [y0]
      kernel_rfl
    | k + 15, ho => simp at ho
  · intro L y w3 hall hx hs
    have y14 : y 14 = .string S2 := hx 14 (hall 14 (by decide))
    rw [y14]
    have B0 := Lib.hid hs
    clear hx hall y14 hs
    dsimp only
    go_upto_if 22 with (with_reducible refine (FA.out _).mono ?_; rintro _ wz ⟨rfl, hwz⟩; have hwz2 := hwz.symm; subst hwz2; clear hwz)
    go_cut [4] (fun s wx => s = .string SA ∧ Below w1.heap.size w1 wx)
    case first =>
      cases fa
      · obtain rfl : SA = S2 := AA.out
        go_wp2_with fail
        go_meet
        all_goals exact ⟨rfl, B0.out⟩
      · have ha : SA = S2 ++ ZA := AA.out
        have hsz : S2.size + ZA.size ≤ 800 := by
          have := ZZ.out
          have h2 : SA.size = S2.size + ZA.size := by rw [ha]; simp
          omega
        have hz2 : ¬ maxLen < S2.size + ZA.size := by unfold maxLen; omega
        have HSZ := Lib.hid hsz
        have HA := Lib.hid ha
        have cc := (ROW.out w3 B0.out).c3
        have b1 := BD.out.2.2.2.1.1
        have b2 : x.a < 9223372036854775808 := by have := BD.out.2.2.2.1.2; omega
        clear hsz ha
        go_wp2_with fail
        refine (CA.out _).mono ?_
        rintro e wy ⟨rfl, hy⟩
        have RL := Lib.hid (B0.out.trans (hy.mono B0.out.size))
        have hsz := HSZ.out
        clear hy
        go_wp2_with fail
        go_meet
        all_goals exact ⟨by rw [HA.out], RL.out⟩
    case rest =>
      obtain ⟨w4, rfl⟩ : ∃ wd : World, wd = wc := ⟨_, rfl⟩
      obtain ⟨rfl, hb⟩ := hcut
      have B1 := Lib.hid hb
      clear hb B0
      go_upto_if 30 with (with_reducible refine (FB.out _).mono ?_; rintro _ wz ⟨rfl, hwz⟩; have hwz2 := hwz.symm; subst hwz2; clear hwz)
      go_cut [4] (fun s wx => s = .string SB ∧ Below w1.heap.size w1 wx)
      case first =>
        cases fb
        · obtain rfl : SB = SA := AB.out
          go_wp2_with fail
          go_meet
          all_goals exact ⟨rfl, B1.out⟩
        · have ha : SB = SA ++ ZB := AB.out
          have hsz : SA.size + ZB.size ≤ 800 := by
            have := ZZ.out
            have h2 : SB.size = SA.size + ZB.size := by rw [ha]; simp
            omega
          have hz2 : ¬ maxLen < SA.size + ZB.size := by unfold maxLen; omega
          have HSZ := Lib.hid hsz
          have HA := Lib.hid ha
          have cc := (ROW.out w4 B1.out).c4
          have b1 := BD.out.2.2.2.2.1
          have b2 : x.b < 9223372036854775808 := by have := BD.out.2.2.2.2.2; omega
          clear hsz ha
          go_wp2_with fail
          refine (CB.out _).mono ?_
          rintro e wy ⟨rfl, hy⟩
          have RL := Lib.hid (B1.out.trans (hy.mono B1.out.size))
          have hsz := HSZ.out
          clear hy
          go_wp2_with fail
          go_meet
          all_goals exact ⟨by rw [HA.out], RL.out⟩
      case rest =>
        obtain ⟨w5, rfl⟩ : ∃ wd : World, wd = wc := ⟨_, rfl⟩
        obtain ⟨rfl, hb⟩ := hcut
        have B2 := Lib.hid hb
        clear hb B1
        go_upto_if 38 with (with_reducible refine (FN.out _).mono ?_; rintro _ wz ⟨rfl, hwz⟩; have hwz2 := hwz.symm; subst hwz2; clear hwz)
        go_cut [4] (fun s wx => s = .string SN ∧ Below w1.heap.size w1 wx)
        case first =>
          cases fn
          · obtain rfl : SN = SB := AN.out
            go_wp2_with fail
            go_meet
            all_goals exact ⟨rfl, B2.out⟩
          · have ha : SN = SB ++ ZN := AN.out
            have hsz : SB.size + ZN.size ≤ 800 := by
              have := ZZ.out
              have h2 : SN.size = SB.size + ZN.size := by rw [ha]; simp
              omega
            have hz2 : ¬ maxLen < SB.size + ZN.size := by unfold maxLen; omega
            have HSZ := Lib.hid hsz
            have HA := Lib.hid ha
            have cc := (ROW.out w5 B2.out).c5
            clear hsz ha
            go_wp2_with fail
            refine (CN.out _).mono ?_
            rintro e wy ⟨rfl, hy⟩
            have RL := Lib.hid (B2.out.trans (hy.mono B2.out.size))
            have hsz := HSZ.out
            clear hy
            go_wp2_with fail
            go_meet
            all_goals exact ⟨by rw [HA.out], RL.out⟩
        case rest =>
          obtain ⟨w6, rfl⟩ : ∃ wd : World, wd = wc := ⟨_, rfl⟩
          obtain ⟨rfl, hb⟩ := hcut
          have B3 := Lib.hid hb
          clear hb B2
          go_upto_if 45 with (with_reducible refine (FT.out _).mono ?_; rintro _ wz ⟨rfl, hwz⟩; have hwz2 := hwz.symm; subst hwz2; clear hwz)
          go_cut [4] (fun s wx => s = .string ST ∧ Below w1.heap.size w1 wx)
          case first =>
            cases ft
            · obtain rfl : ST = SN := AT.out
              go_wp2_with fail
              go_meet
              all_goals exact ⟨rfl, B3.out⟩
            · have ha : ST = SN ++ ZT := AT.out
              have hsz : SN.size + ZT.size ≤ 800 := by
                have := ZZ.out
                have h2 : ST.size = SN.size + ZT.size := by rw [ha]; simp
                omega
              have hz2 : ¬ maxLen < SN.size + ZT.size := by unfold maxLen; omega
              have HSZ := Lib.hid hsz
              have HA := Lib.hid ha
              have cc := (ROW.out w6 B3.out).c6
              clear hsz ha
              go_wp2_with fail
              refine (CX.out _).mono ?_
              rintro e wy ⟨rfl, hy⟩
              have RL := Lib.hid (B3.out.trans (hy.mono B3.out.size))
              have hsz := HSZ.out
              clear hy
              go_wp2_with fail
              go_meet
              all_goals exact ⟨by rw [HA.out], RL.out⟩
          case rest =>
            obtain ⟨w7, rfl⟩ : ∃ wd : World, wd = wc := ⟨_, rfl⟩
            obtain ⟨rfl, hb⟩ := hcut
            have B4 := Lib.hid hb
            clear hb B3
            go_upto_if 52 with (with_reducible refine (FV.out _).mono ?_; rintro _ wz ⟨rfl, hwz⟩; have hwz2 := hwz.symm; subst hwz2; clear hwz)
            go_cut [4] (fun s wx => s = .string SV ∧ Below w1.heap.size w1 wx)
            case first =>
              cases fv
              · obtain rfl : SV = ST := AV.out
                go_wp2_with fail
                go_meet
                all_goals exact ⟨rfl, B4.out⟩
              · have ha : SV = ST ++ ZV := AV.out
                have hsz : ST.size + ZV.size ≤ 800 := by
                  have := ZZ.out
                  have h2 : SV.size = ST.size + ZV.size := by rw [ha]; simp
                  omega
                have hz2 : ¬ maxLen < ST.size + ZV.size := by unfold maxLen; omega
                have HSZ := Lib.hid hsz
                have HA := Lib.hid ha
                have KV := Lib.hid ((ROW.out w7 B4.out).cv)
                have CC := Lib.hid (CV.out w7 B4.out)
                clear hsz ha
                go_wp2_with (with_reducible show wpList _ _ _ _ _ _; refine wpList_load_allW rfl 26 (.tmp 54) rfl ⟨g,7,none⟩ rfl x.val.cells _ KV.out Tryz.underlying26 rfl (Tryz.valSize x.val) ?_)
                refine CC.out.mono ?_
                rintro e wy ⟨rfl, hy⟩
                have RL := Lib.hid (B4.out.trans (hy.mono B4.out.size))
                have hsz := HSZ.out
                clear hy
                go_wp2_with fail
                go_meet
                all_goals exact ⟨by rw [HA.out], RL.out⟩
            case rest =>
              obtain ⟨w8, rfl⟩ : ∃ wd : World, wd = wc := ⟨_, rfl⟩
              obtain ⟨rfl, hb⟩ := hcut
              have B5 := Lib.hid hb
              clear hb B4
              go_wp2_with fail
              go_ret
              exact ⟨rfl, Bw1.out.trans (B5.out.mono Bw1.out.size)⟩
end Go.Proofs.YtnfobnnbeefeeaaGreatDoor.Wi
