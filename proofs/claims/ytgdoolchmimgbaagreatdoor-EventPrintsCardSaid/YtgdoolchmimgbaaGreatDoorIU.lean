/- The reference's Line. -/
import Derived.Test.YtgdoolchmimgbaaGreatDoorIO
import Derived.Test.YtgdoolchmimgbaaGreatDoorGN
import Derived.Test.YtgdoolchmimgbaaGreatDoorGB
namespace Go.Proofs.YtgdoolchmimgbaaGreatDoor.Wi
open Go Go.RowKit
set_option linter.unusedVariables false
set_option linter.unusedSimpArgs false
set_option maxHeartbeats 16000000 in
set_option maxRecDepth 100000 in
theorem rlineE_any (x : Ev) (N : Nat) (w : World) (hx : x.At N w) (hv : x.vE = 0) (hN : N ≤ w.heap.size) : Calls Tryz.prog 28 #[.agg x.cells.toArray] w fun e w' => e = .returned (.string (str x.ln)) ∧ Below w.heap.size w w' := by
  have FI := Ev.fits hv
  have HFine := Lib.hid (fine FI.val.1)
  have hle := ln_le hv hx
  obtain ⟨w1, hw1⟩ : ∃ bx, bx = w.alloc (.cells x.cells.toArray 26) := ⟨_, rfl⟩
  obtain ⟨g, hg⟩ : ∃ bx, bx = w.heap.size := ⟨_, rfl⟩
  have bw1 : Below w.heap.size w w1 := by rw [hw1]; exact (Below.refl _ _).alloc (Nat.le_refl _) _
  have nw1 : w1.heap[g]? = some (.cells x.cells.toArray 26 (0, 0)) := by rw [hw1, hg]; exact heap_alloc_new _ _
  have Kw1 := Lib.hid (rowE nw1)
  have Cw1 := Lib.hid (evC nw1)
  have Hw1 := Lib.hid hw1
  have Hg := Lib.hid hg
  have Bw1 := Lib.hid bw1
  have Nw1 := Lib.hid nw1
  clear hw1 hg bw1 nw1
  have HX1 := Lib.hid (hx.below (Bw1.out.mono hN))
  have HN1 := Lib.hid (Nat.le_trans hN Bw1.out.size)
  have ROW := Lib.hid (fun (W : World) (h : Below w1.heap.size w1 W) => evC ((h.block g (lt_of_rowK Nw1.out)).trans Nw1.out))
  have FA := Lib.hid (fun W => rA_any x.kind W)
  have FB := Lib.hid (fun W => rB_any x.kind W)
  have FN := Lib.hid (fun W => rN_any x.kind W)
  have FT := Lib.hid (fun W => rT_any x.kind W)
  have FV := Lib.hid (fun W => rV_any x.kind W)
  have fnm := FI.name.1; have ftx := FI.text.1
  have hid := hx.id; have hti := hx.time; have hki := hx.kind; have hai := hx.a; have hbi := hx.b
  obtain ⟨Q2, hQ2⟩ : ∃ Q, Q = Lib.itoa x.id ++ [32, 64] ++ Lib.itoa x.time ++ [32] ++ eNm x.kind := ⟨_, rfl⟩
  obtain ⟨QA, hQA⟩ : ∃ Q, Q = Q2 ++ oL (eA x.kind) (Lib.itoa x.a) := ⟨_, rfl⟩
  obtain ⟨QB, hQB⟩ : ∃ Q, Q = QA ++ oL (eB x.kind) (Lib.itoa x.b) := ⟨_, rfl⟩
  obtain ⟨QN, hQN⟩ : ∃ Q, Q = QB ++ oL (eN x.kind) (qt x.name) := ⟨_, rfl⟩
  obtain ⟨QT, hQT⟩ : ∃ Q, Q = QN ++ oL (eT x.kind) (qt x.text) := ⟨_, rfl⟩
  obtain ⟨QV, hQV⟩ : ∃ Q, Q = QT ++ oL (eV x.kind) x.val.pv := ⟨_, rfl⟩
  have heb : x.ln = QV := by
    rw [hQV, hQT, hQN, hQB, hQA, hQ2]
    unfold Ev.ln
    simp only [List.append_assoc, List.cons_append, List.nil_append]
  rw [heb] at hle ⊢
  have ll : Q2.length ≤ QA.length ∧ QA.length ≤ QB.length ∧ QB.length ≤ QN.length ∧ QN.length ≤ QT.length ∧ QT.length ≤ QV.length ∧ QV.length ≤ 300000 := by
    refine ⟨?_, ?_, ?_, ?_, ?_, hle⟩
    · rw [hQA]; simp
    · rw [hQB]; simp
    · rw [hQN]; simp
    · rw [hQT]; simp
    · rw [hQV]; simp
  have c2 := Cw1.out.c2
  obtain ⟨k, hk⟩ : ∃ k, k = x.kind := ⟨_, rfl⟩
  obtain ⟨i, hi⟩ : ∃ k, k = x.id := ⟨_, rfl⟩
  obtain ⟨t, ht⟩ : ∃ k, k = x.time := ⟨_, rfl⟩
  obtain ⟨A0, hA0⟩ : ∃ S, S = str (Lib.itoa x.id) := ⟨_, rfl⟩
  obtain ⟨A1, hA1⟩ : ∃ S, S = str (Lib.itoa x.id ++ [32, 64]) := ⟨_, rfl⟩
  obtain ⟨T0, hT0⟩ : ∃ S, S = str (Lib.itoa x.time) := ⟨_, rfl⟩
  obtain ⟨A2, hA2⟩ : ∃ S, S = str (Lib.itoa x.id ++ [32, 64] ++ Lib.itoa x.time) := ⟨_, rfl⟩
  obtain ⟨A3, hA3⟩ : ∃ S, S = str (Lib.itoa x.id ++ [32, 64] ++ Lib.itoa x.time ++ [32]) := ⟨_, rfl⟩
  obtain ⟨M, hM⟩ : ∃ S, S = str (eNm x.kind) := ⟨_, rfl⟩
  obtain ⟨S2, hS2⟩ : ∃ S, S = str Q2 := ⟨_, rfl⟩
  obtain ⟨SA, hSA⟩ : ∃ S, S = str QA := ⟨_, rfl⟩
  obtain ⟨SB, hSB⟩ : ∃ S, S = str QB := ⟨_, rfl⟩
  obtain ⟨SN, hSN⟩ : ∃ S, S = str QN := ⟨_, rfl⟩
  obtain ⟨ST, hST⟩ : ∃ S, S = str QT := ⟨_, rfl⟩
  obtain ⟨SV, hSV⟩ : ∃ S, S = str QV := ⟨_, rfl⟩
  obtain ⟨ZA, hZA⟩ : ∃ S, S = str (Lib.itoa x.a) := ⟨_, rfl⟩
  obtain ⟨ZB, hZB⟩ : ∃ S, S = str (Lib.itoa x.b) := ⟨_, rfl⟩
  obtain ⟨ZN, hZN⟩ : ∃ S, S = str (qt x.name) := ⟨_, rfl⟩
  obtain ⟨ZT, hZT⟩ : ∃ S, S = str (qt x.text) := ⟨_, rfl⟩
  obtain ⟨ZV, hZV⟩ : ∃ S, S = str x.val.pv := ⟨_, rfl⟩
  have K01 := Lib.hid (show ∀ W, Below w1.heap.size w1 W → W.cell? ⟨g, 0, none⟩ = some (.int .i64 i) ∧ W.cell? ⟨g, 1, none⟩ = some (.int .i64 t) from fun W h => by rw [hi, ht]; exact ⟨(ROW.out W h).c0, (ROW.out W h).c1⟩)
  have C1 := Lib.hid (show ∀ W, Calls Tryz.prog 62 #[.int .i64 i] W fun e w' => e = .returned (.string A0) ∧ Below W.heap.size W w' from fun W => by rw [hi, hA0]; exact rnumber_any x.id hid.1 hid.2 W)
  have C2 := Lib.hid (show ∀ W, Calls Tryz.prog 62 #[.int .i64 t] W fun e w' => e = .returned (.string T0) ∧ Below W.heap.size W w' from fun W => by rw [ht, hT0]; exact rnumber_any x.time hti.1 hti.2 W)
  have C3 := Lib.hid (show ∀ W, Calls Tryz.prog 21 #[.int .i64 k] W fun e w' => e = .returned (.string M) ∧ Below W.heap.size W w' from fun W => by rw [hk, hM]; exact rname_any x.kind hki W)
  have CA := Lib.hid (show ∀ W, Calls Tryz.prog 62 #[.int .i64 x.a] W fun e w' => e = .returned (.string ZA) ∧ Below W.heap.size W w' from fun W => by rw [hZA]; exact rnumber_any x.a hai.1 hai.2 W)
  have CB := Lib.hid (show ∀ W, Calls Tryz.prog 62 #[.int .i64 x.b] W fun e w' => e = .returned (.string ZB) ∧ Below W.heap.size W w' from fun W => by rw [hZB]; exact rnumber_any x.b hbi.1 hbi.2 W)
  have CN := Lib.hid (show ∀ W, Calls Tryz.prog 63 #[.string (str x.name)] W fun e w' => e = .returned (.string ZN) ∧ Below W.heap.size W w' from fun W => by rw [hZN]; exact rquote_any x.name (by omega) W)
  have CX := Lib.hid (show ∀ W, Calls Tryz.prog 63 #[.string (str x.text)] W fun e w' => e = .returned (.string ZT) ∧ Below W.heap.size W w' from fun W => by rw [hZT]; exact rquote_any x.text (by omega) W)
  have CV := Lib.hid (show ∀ W, Below w1.heap.size w1 W → Calls Tryz.prog 64 #[.agg x.val.cells.toArray] W fun e w' => e = .returned (.string ZV) ∧ Below W.heap.size W w' from fun W hW => by
    have h := rprint_any x.val N W (HX1.out.val.below (hW.mono HN1.out)) (Nat.le_trans HN1.out hW.size) (by have := HFine.out.pz; omega)
    unfold StrI at h
    rw [← hZV] at h; exact h)
  have a1 : A0 ++ (ByteArray.mk #[32, 64]) = A1 := by rw [hA0, hA1]; exact str_appE (Lib.itoa x.id) [32, 64]
  have a2 : A1 ++ T0 = A2 := by rw [hA1, hT0, hA2, str_appE]
  have a3 : A2 ++ (ByteArray.mk #[32]) = A3 := by rw [hA2, hA3]; exact str_appE _ [32]
  have a4 : A3 ++ M = S2 := by rw [hA3, hM, hS2, hQ2, str_appE]
  have sp : ∀ l : List UInt8, (ByteArray.mk #[32]) ++ str l = str (32 :: l) := fun l => str_appE [32] l
  have aA : SA = if eA x.kind = true then S2 ++ ((ByteArray.mk #[32]) ++ ZA) else S2 := by rw [hSA, hQA, hZA, hS2, sp]; cases eA x.kind <;> simp [oL, str_appE]
  have aB : SB = if eB x.kind = true then SA ++ ((ByteArray.mk #[32]) ++ ZB) else SA := by rw [hSB, hQB, hZB, hSA, sp]; cases eB x.kind <;> simp [oL, str_appE]
  have aN : SN = if eN x.kind = true then SB ++ ((ByteArray.mk #[32]) ++ ZN) else SB := by rw [hSN, hQN, hZN, hSB, sp]; cases eN x.kind <;> simp [oL, str_appE]
  have aT : ST = if eT x.kind = true then SN ++ ((ByteArray.mk #[32]) ++ ZT) else SN := by rw [hST, hQT, hZT, hSN, sp]; cases eT x.kind <;> simp [oL, str_appE]
  have aV : SV = if eV x.kind = true then ST ++ ((ByteArray.mk #[32]) ++ ZV) else ST := by rw [hSV, hQV, hZV, hST, sp]; cases eV x.kind <;> simp [oL, str_appE]
  have y1 : A0.size + 2 = A1.size := by rw [← a1]; simp; rfl
  have y2 : A1.size + T0.size = A2.size := by rw [← a2]; simp
  have y3 : A2.size + 1 = A3.size := by rw [← a3]; simp; rfl
  have y4 : A3.size + M.size = S2.size := by rw [← a4]; simp
  have zs : S2.size ≤ 300000 ∧ SA.size ≤ 300000 ∧ SB.size ≤ 300000 ∧ SN.size ≤ 300000 ∧ ST.size ≤ 300000 ∧ SV.size ≤ 300000 := by
    rw [hS2, hSA, hSB, hSN, hST, hSV, str_sizeX, str_sizeX, str_sizeX, str_sizeX, str_sizeX, str_sizeX]; omega
  have AQ1 := Lib.hid a1
  have AQ2 := Lib.hid a2
  have AQ3 := Lib.hid a3
  have AQ4 := Lib.hid a4
  have ZZ := Lib.hid (show A0.size + 2 = A1.size ∧ A1.size + T0.size = A2.size ∧ A2.size + 1 = A3.size ∧ A3.size + M.size = S2.size ∧ S2.size ≤ 300000 ∧ SA.size ≤ 300000 ∧ SB.size ≤ 300000 ∧ SN.size ≤ 300000 ∧ ST.size ≤ 300000 ∧ SV.size ≤ 300000 from ⟨y1, y2, y3, y4, zs⟩)
  obtain ⟨fa, hfa⟩ : ∃ f, f = eA x.kind := ⟨_, rfl⟩
  obtain ⟨fb, hfb⟩ : ∃ f, f = eB x.kind := ⟨_, rfl⟩
  obtain ⟨fn, hfn⟩ : ∃ f, f = eN x.kind := ⟨_, rfl⟩
  obtain ⟨ft, hft⟩ : ∃ f, f = eT x.kind := ⟨_, rfl⟩
  obtain ⟨fv, hfv⟩ : ∃ f, f = eV x.kind := ⟨_, rfl⟩
  rw [← hfa, ← hk] at FA
  rw [← hfb, ← hk] at FB
  rw [← hfn, ← hk] at FN
  rw [← hft, ← hk] at FT
  rw [← hfv, ← hk] at FV
  rw [← hfa] at aA
  rw [← hfb] at aB
  rw [← hfn] at aN
  rw [← hft] at aT
  rw [← hfv] at aV
  have AA := Lib.hid aA
  have AB := Lib.hid aB
  have AN := Lib.hid aN
  have AT := Lib.hid aT
  have AV := Lib.hid aV
  rw [← hSV]
  rw [← hk] at c2
  clear hQ2 hQA hQB hQN hQT hQV heb hle ll hk hi ht hA0 hA1 hT0 hA2 hA3 hM hS2 hSA hSB hSN hST hSV hZA hZB hZN hZT hZV a1 a2 a3 a4 sp aA aB aN aT aV y1 y2 y3 y4 zs hfa hfb hfn hft hfv fnm ftx hid hti hki hai hbi FI hx hv
  go_enter Tryz.func28, Tryz.ntmps28
  go_upto_region 1 with fail
  rw [← Hw1.out, ← Hg.out]
  go_upto_region 2 with fail
  clear c2
  refine wp_region_slotsG (by kernel_rfl) (by kernel_rfl)
    (fun y => ⟨#[.agg x.cells.toArray, .pointer (some ⟨g, 0, none⟩), .string ⟨#[]⟩, .int .i64 k, y 12, .pointer (some ⟨g, 2, none⟩), .int .i64 k, y 0, y 1, y 2, y 3, y 4, y 5, y 6, y 7, y 8, y 9, y 10, y 11, undef, undef, undef, undef, undef, undef, undef, undef, undef, undef, undef, undef, undef, undef, undef, undef, undef, undef, undef, undef, undef, undef, undef, undef, undef, undef, undef, undef, undef, undef, undef, undef, undef, undef, undef, undef, undef, undef, undef, undef, undef], []⟩)
    (fun j q W => match j with | 0 => q = .pointer (some ⟨g, 0, none⟩) | 1 => q = .int .i64 i | 2 => q = .string A0 | 3 => q = .string A1 | 4 => q = .pointer (some ⟨g, 1, none⟩) | 5 => q = .int .i64 t | 6 => q = .string T0 | 7 => q = .string A2 | 8 => q = .string A3 | 9 => q = .int .i64 k | 10 => q = .string M | 11 => q = .string S2 | 12 => q = .string S2 | _ => True)
    (fun L W => Below w1.heap.size w1 W) (fun W W' => Below W.heap.size W W') ?_ ?_ ?_ (fun _ => undef) rfl (below_drewG (Below.refl _ _) 1)
  · intro j q W W' hr hf
    match j, hf with
    | 0, h => exact h
    | 1, h => exact h
    | 2, h => exact h
    | 3, h => exact h
    | 4, h => exact h
    | 5, h => exact h
    | 6, h => exact h
    | 7, h => exact h
    | 8, h => exact h
    | 9, h => exact h
    | 10, h => exact h
    | 11, h => exact h
    | 12, h => exact h
    | k + 13, _ => trivial
  · intro i' o ho L y wx hd hi' hx hs
    match i', ho with
    | 0, ho =>
      obtain rfl := Option.some.inj ho
      refine .inl ⟨rfl, ?_⟩
      exact slot_run (v := .pointer (some ⟨g, 0, none⟩)) (w' := wx) rfl ⟨_, rfl, Below.refl _ _, rfl, hs⟩
    | 1, ho =>
      obtain rfl := Option.some.inj ho
      refine .inl ⟨rfl, ?_⟩
      have y0 : y 0 = .pointer (some ⟨g, 0, none⟩) := hx 0 (hd ⟨0, .data⟩ (by simp) rfl)
      have hc := (K01.out wx hs).1
      refine slot_run (v := .int .i64 i) (w' := wx) ?_ ⟨_, rfl, Below.refl _ _, rfl, hs⟩
      refine runWithK (fun z => match z with | .tmp 7 => y 0 | .const c => c | _ => undef) (by kernel_rfl) ?_
      rw [y0]
      go_simp
    | 2, ho =>
      obtain rfl := Option.some.inj ho
      refine .inl ⟨rfl, ?_⟩
      have y0 : y 1 = .int .i64 i := hx 1 (hd ⟨1, .data⟩ (by simp) rfl)
      refine slot_call #[.int .i64 i] rfl Tryz.func62 (by kernel_rfl) (by kernel_rfl) (by simp [Act.eval, y0]) ?_
      refine (C1.out wx).mono ?_
      rintro e w' ⟨rfl, hb⟩
      exact ⟨_, rfl, _, rfl, hb, rfl, hs.trans (hb.mono hs.size)⟩
    | 3, ho =>
      obtain rfl := Option.some.inj ho
      refine .inl ⟨rfl, ?_⟩
      have y0 : y 2 = .string A0 := hx 2 (hd ⟨2, .data⟩ (by simp) rfl)
      have hz := ZZ.out
      have hz2 : ¬ maxLen < A0.size + 2 := by unfold maxLen; omega
      have hz3 : A0.size + 2 ≤ 9223372036854775807 := by omega
      refine slot_run (v := .string A1) (w' := wx) ?_ ⟨_, rfl, Below.refl _ _, rfl, hs⟩
      refine runWithK (fun z => match z with | .tmp 9 => y 2 | .const c => c | _ => undef) (by kernel_rfl) ?_
      rw [y0]
      rw [← AQ1.out]
      go_simp
      omega
    | 4, ho =>
      obtain rfl := Option.some.inj ho
      refine .inl ⟨rfl, ?_⟩
      exact slot_run (v := .pointer (some ⟨g, 1, none⟩)) (w' := wx) rfl ⟨_, rfl, Below.refl _ _, rfl, hs⟩
    | 5, ho =>
      obtain rfl := Option.some.inj ho
      refine .inl ⟨rfl, ?_⟩
      have y0 : y 4 = .pointer (some ⟨g, 1, none⟩) := hx 4 (hd ⟨4, .data⟩ (by simp) rfl)
      have hc := (K01.out wx hs).2
      refine slot_run (v := .int .i64 t) (w' := wx) ?_ ⟨_, rfl, Below.refl _ _, rfl, hs⟩
      refine runWithK (fun z => match z with | .tmp 11 => y 4 | .const c => c | _ => undef) (by kernel_rfl) ?_
      rw [y0]
      go_simp
    | 6, ho =>
      obtain rfl := Option.some.inj ho
      refine .inl ⟨rfl, ?_⟩
      have y0 : y 5 = .int .i64 t := hx 5 (hd ⟨5, .data⟩ (by simp) rfl)
      refine slot_call #[.int .i64 t] rfl Tryz.func62 (by kernel_rfl) (by kernel_rfl) (by simp [Act.eval, y0]) ?_
      refine (C2.out wx).mono ?_
      rintro e w' ⟨rfl, hb⟩
      exact ⟨_, rfl, _, rfl, hb, rfl, hs.trans (hb.mono hs.size)⟩
    | 7, ho =>
      obtain rfl := Option.some.inj ho
      refine .inl ⟨rfl, ?_⟩
      have y0 : y 3 = .string A1 := hx 3 (hd ⟨3, .data⟩ (by simp) rfl)
      have y1 : y 6 = .string T0 := hx 6 (hd ⟨6, .data⟩ (by simp) rfl)
      have hz := ZZ.out
      have hz2 : ¬ maxLen < A1.size + T0.size := by unfold maxLen; omega
      have hz3 : A1.size + T0.size ≤ 9223372036854775807 := by omega
      refine slot_run (v := .string A2) (w' := wx) ?_ ⟨_, rfl, Below.refl _ _, rfl, hs⟩
      refine runWithK (fun z => match z with | .tmp 10 => y 3 | .tmp 13 => y 6 | .const c => c | _ => undef) (by kernel_rfl) ?_
      rw [y0, y1]
      rw [← AQ2.out]
      go_simp
      omega
    | 8, ho =>
      obtain rfl := Option.some.inj ho
      refine .inl ⟨rfl, ?_⟩
      have y0 : y 7 = .string A2 := hx 7 (hd ⟨7, .data⟩ (by simp) rfl)
      have hz := ZZ.out
      have hz2 : ¬ maxLen < A2.size + 1 := by unfold maxLen; omega
      have hz3 : A2.size + 1 ≤ 9223372036854775807 := by omega
      refine slot_run (v := .string A3) (w' := wx) ?_ ⟨_, rfl, Below.refl _ _, rfl, hs⟩
      refine runWithK (fun z => match z with | .tmp 14 => y 7 | .const c => c | _ => undef) (by kernel_rfl) ?_
      rw [y0]
      rw [← AQ3.out]
      go_simp
      omega
    | 9, ho =>
      obtain rfl := Option.some.inj ho
      refine .inl ⟨rfl, ?_⟩
      exact slot_run (v := .int .i64 k) (w' := wx) rfl ⟨_, rfl, Below.refl _ _, rfl, hs⟩
    | 10, ho =>
      obtain rfl := Option.some.inj ho
      refine .inl ⟨rfl, ?_⟩
      have y0 : y 9 = .int .i64 k := hx 9 (hd ⟨9, .data⟩ (by simp) rfl)
      refine slot_call #[.int .i64 k] rfl Tryz.func21 (by kernel_rfl) (by kernel_rfl) (by simp [Act.eval, y0]) ?_
      refine (C3.out wx).mono ?_
      rintro e w' ⟨rfl, hb⟩
      exact ⟨_, rfl, _, rfl, hb, rfl, hs.trans (hb.mono hs.size)⟩
    | 11, ho =>
      obtain rfl := Option.some.inj ho
      refine .inl ⟨rfl, ?_⟩
      have y0 : y 8 = .string A3 := hx 8 (hd ⟨8, .data⟩ (by simp) rfl)
      have y1 : y 10 = .string M := hx 10 (hd ⟨10, .data⟩ (by simp) rfl)
      have hz := ZZ.out
      have hz2 : ¬ maxLen < A3.size + M.size := by unfold maxLen; omega
      have hz3 : A3.size + M.size ≤ 9223372036854775807 := by omega
      refine slot_run (v := .string S2) (w' := wx) ?_ ⟨_, rfl, Below.refl _ _, rfl, hs⟩
      refine runWithK (fun z => match z with | .tmp 15 => y 8 | .tmp 17 => y 10 | .const c => c | _ => undef) (by kernel_rfl) ?_
      rw [y0, y1]
      rw [← AQ4.out]
      go_simp
      omega
    | 12, ho =>
      obtain rfl := Option.some.inj ho
      refine .inl ⟨rfl, ?_⟩
      have y0 : y 11 = .string S2 := hx 11 (hd ⟨11, .data⟩ (by simp) rfl)
      refine slot_run (v := .string S2) (w' := wx) ?_ ⟨_, rfl, Below.refl _ _, rfl, hs⟩
      refine runWithK (fun z => match z with | .tmp 18 => y 11 | .const c => c | _ => undef) (by kernel_rfl) ?_
      rw [y0]
      kernel_rfl
    | k + 13, ho => simp at ho
  · intro L y w3 hall hx hs
    have yz : y 12 = .string S2 := hx 12 (hall 12 (by decide))
    rw [yz]
    have B0 := Lib.hid hs
    clear hx hall yz hs
    dsimp only
    go_upto_if 20 with (with_reducible refine (FA.out _).mono ?_; rintro _ wz ⟨rfl, hwz⟩; have hwz2 := hwz.symm; subst hwz2; clear hwz)
    go_cut [4] (fun s wx => s = .string SA ∧ Below w1.heap.size w1 wx)
    case first =>
      cases fa
      · obtain rfl : SA = S2 := AA.out
        go_wp2_with fail
        go_meet
        all_goals exact ⟨rfl, B0.out⟩
      · have ha : SA = S2 ++ ((ByteArray.mk #[32]) ++ ZA) := AA.out
        have hsz : S2.size + (1 + ZA.size) ≤ 300000 := by
          have := ZZ.out
          have h2 : SA.size = S2.size + (1 + ZA.size) := by rw [ha]; simp; rfl
          omega
        have hz1 : ¬ maxLen < 1 + ZA.size := by unfold maxLen; omega
        have hz2 : ¬ maxLen < S2.size + (1 + ZA.size) := by unfold maxLen; omega
        have HSZ := Lib.hid hsz
        have HA := Lib.hid ha
        have cc := (ROW.out w3 B0.out).c3
        clear hsz ha
        go_wp2_with fail
        refine (CA.out _).mono ?_
        rintro e wy ⟨rfl, hy⟩
        have RL := Lib.hid (B0.out.trans (hy.mono B0.out.size))
        have hsz := HSZ.out
        have hsp : (ByteArray.mk #[32]).size = 1 := rfl
        clear hy
        go_wp2_with fail
        go_meet
        all_goals exact ⟨by rw [HA.out], RL.out⟩
    case rest =>
      obtain ⟨w4, rfl⟩ : ∃ wd : World, wd = wc := ⟨_, rfl⟩
      obtain ⟨rfl, hb⟩ := hcut
      have B1 := Lib.hid hb
      clear hb B0
      go_upto_if 28 with (with_reducible refine (FB.out _).mono ?_; rintro _ wz ⟨rfl, hwz⟩; have hwz2 := hwz.symm; subst hwz2; clear hwz)
      go_cut [4] (fun s wx => s = .string SB ∧ Below w1.heap.size w1 wx)
      case first =>
        cases fb
        · obtain rfl : SB = SA := AB.out
          go_wp2_with fail
          go_meet
          all_goals exact ⟨rfl, B1.out⟩
        · have ha : SB = SA ++ ((ByteArray.mk #[32]) ++ ZB) := AB.out
          have hsz : SA.size + (1 + ZB.size) ≤ 300000 := by
            have := ZZ.out
            have h2 : SB.size = SA.size + (1 + ZB.size) := by rw [ha]; simp; rfl
            omega
          have hz1 : ¬ maxLen < 1 + ZB.size := by unfold maxLen; omega
          have hz2 : ¬ maxLen < SA.size + (1 + ZB.size) := by unfold maxLen; omega
          have HSZ := Lib.hid hsz
          have HA := Lib.hid ha
          have cc := (ROW.out w4 B1.out).c4
          clear hsz ha
          go_wp2_with fail
          refine (CB.out _).mono ?_
          rintro e wy ⟨rfl, hy⟩
          have RL := Lib.hid (B1.out.trans (hy.mono B1.out.size))
          have hsz := HSZ.out
          have hsp : (ByteArray.mk #[32]).size = 1 := rfl
          clear hy
          go_wp2_with fail
          go_meet
          all_goals exact ⟨by rw [HA.out], RL.out⟩
      case rest =>
        obtain ⟨w5, rfl⟩ : ∃ wd : World, wd = wc := ⟨_, rfl⟩
        obtain ⟨rfl, hb⟩ := hcut
        have B2 := Lib.hid hb
        clear hb B1
        go_upto_if 36 with (with_reducible refine (FN.out _).mono ?_; rintro _ wz ⟨rfl, hwz⟩; have hwz2 := hwz.symm; subst hwz2; clear hwz)
        go_cut [4] (fun s wx => s = .string SN ∧ Below w1.heap.size w1 wx)
        case first =>
          cases fn
          · obtain rfl : SN = SB := AN.out
            go_wp2_with fail
            go_meet
            all_goals exact ⟨rfl, B2.out⟩
          · have ha : SN = SB ++ ((ByteArray.mk #[32]) ++ ZN) := AN.out
            have hsz : SB.size + (1 + ZN.size) ≤ 300000 := by
              have := ZZ.out
              have h2 : SN.size = SB.size + (1 + ZN.size) := by rw [ha]; simp; rfl
              omega
            have hz1 : ¬ maxLen < 1 + ZN.size := by unfold maxLen; omega
            have hz2 : ¬ maxLen < SB.size + (1 + ZN.size) := by unfold maxLen; omega
            have HSZ := Lib.hid hsz
            have HA := Lib.hid ha
            have cc := (ROW.out w5 B2.out).c5
            clear hsz ha
            go_wp2_with fail
            refine (CN.out _).mono ?_
            rintro e wy ⟨rfl, hy⟩
            have RL := Lib.hid (B2.out.trans (hy.mono B2.out.size))
            have hsz := HSZ.out
            have hsp : (ByteArray.mk #[32]).size = 1 := rfl
            clear hy
            go_wp2_with fail
            go_meet
            all_goals exact ⟨by rw [HA.out], RL.out⟩
        case rest =>
          obtain ⟨w6, rfl⟩ : ∃ wd : World, wd = wc := ⟨_, rfl⟩
          obtain ⟨rfl, hb⟩ := hcut
          have B3 := Lib.hid hb
          clear hb B2
          go_upto_if 44 with (with_reducible refine (FT.out _).mono ?_; rintro _ wz ⟨rfl, hwz⟩; have hwz2 := hwz.symm; subst hwz2; clear hwz)
          go_cut [4] (fun s wx => s = .string ST ∧ Below w1.heap.size w1 wx)
          case first =>
            cases ft
            · obtain rfl : ST = SN := AT.out
              go_wp2_with fail
              go_meet
              all_goals exact ⟨rfl, B3.out⟩
            · have ha : ST = SN ++ ((ByteArray.mk #[32]) ++ ZT) := AT.out
              have hsz : SN.size + (1 + ZT.size) ≤ 300000 := by
                have := ZZ.out
                have h2 : ST.size = SN.size + (1 + ZT.size) := by rw [ha]; simp; rfl
                omega
              have hz1 : ¬ maxLen < 1 + ZT.size := by unfold maxLen; omega
              have hz2 : ¬ maxLen < SN.size + (1 + ZT.size) := by unfold maxLen; omega
              have HSZ := Lib.hid hsz
              have HA := Lib.hid ha
              have cc := (ROW.out w6 B3.out).c6
              clear hsz ha
              go_wp2_with fail
              refine (CX.out _).mono ?_
              rintro e wy ⟨rfl, hy⟩
              have RL := Lib.hid (B3.out.trans (hy.mono B3.out.size))
              have hsz := HSZ.out
              have hsp : (ByteArray.mk #[32]).size = 1 := rfl
              clear hy
              go_wp2_with fail
              go_meet
              all_goals exact ⟨by rw [HA.out], RL.out⟩
          case rest =>
            obtain ⟨w7, rfl⟩ : ∃ wd : World, wd = wc := ⟨_, rfl⟩
            obtain ⟨rfl, hb⟩ := hcut
            have B4 := Lib.hid hb
            clear hb B3
            go_upto_if 52 with (with_reducible refine (FV.out _).mono ?_; rintro _ wz ⟨rfl, hwz⟩; have hwz2 := hwz.symm; subst hwz2; clear hwz)
            go_cut [4] (fun s wx => s = .string SV ∧ Below w1.heap.size w1 wx)
            case first =>
              cases fv
              · obtain rfl : SV = ST := AV.out
                go_wp2_with fail
                go_meet
                all_goals exact ⟨rfl, B4.out⟩
              · have ha : SV = ST ++ ((ByteArray.mk #[32]) ++ ZV) := AV.out
                have hsz : ST.size + (1 + ZV.size) ≤ 300000 := by
                  have := ZZ.out
                  have h2 : SV.size = ST.size + (1 + ZV.size) := by rw [ha]; simp; rfl
                  omega
                have hz1 : ¬ maxLen < 1 + ZV.size := by unfold maxLen; omega
                have hz2 : ¬ maxLen < ST.size + (1 + ZV.size) := by unfold maxLen; omega
                have HSZ := Lib.hid hsz
                have HA := Lib.hid ha
                have KV := Lib.hid ((ROW.out w7 B4.out).cv)
                have CC := Lib.hid (CV.out w7 B4.out)
                clear hsz ha
                go_wp2_with (with_reducible show wpList _ _ _ _ _ _; refine wpList_load_allW rfl 24 (.tmp 54) rfl ⟨g,7,none⟩ rfl x.val.cells _ KV.out Tryz.underlying24 rfl (Tryz.valSize x.val) ?_)
                refine CC.out.mono ?_
                rintro e wy ⟨rfl, hy⟩
                have RL := Lib.hid (B4.out.trans (hy.mono B4.out.size))
                have hsz := HSZ.out
                have hsp : (ByteArray.mk #[32]).size = 1 := rfl
                clear hy
                go_wp2_with fail
                go_meet
                all_goals exact ⟨by rw [HA.out], RL.out⟩
            case rest =>
              obtain ⟨w8, rfl⟩ : ∃ wd : World, wd = wc := ⟨_, rfl⟩
              obtain ⟨rfl, hb⟩ := hcut
              have B5 := Lib.hid hb
              clear hb B4
              go_wp2_with fail
              go_ret
              exact ⟨rfl, Bw1.out.trans (B5.out.mono Bw1.out.size)⟩
end Go.Proofs.YtgdoolchmimgbaaGreatDoor.Wi
