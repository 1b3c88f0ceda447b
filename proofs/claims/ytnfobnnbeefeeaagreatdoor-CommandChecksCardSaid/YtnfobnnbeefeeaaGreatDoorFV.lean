/- The reference's bytes of commands. -/
import Derived.Test.YtnfobnnbeefeeaaGreatDoorFJ
import Derived.Test.YtnfobnnbeefeeaaGreatDoorGS
import Derived.Test.YtnfobnnbeefeeaaGreatDoorIO
namespace Go.Proofs.YtnfobnnbeefeeaaGreatDoor.Wi
open Go Go.RowKit
set_option linter.unusedVariables false
set_option linter.unusedSimpArgs false
set_option maxHeartbeats 16000000 in
set_option maxRecDepth 100000 in
theorem rcone_any (x : Cm) (N : Nat) (w : World) (hx : x.At N w) (hv : x.vE = 0) (hN : N ≤ w.heap.size) : Calls Tryz.prog 80 #[.agg x.cells.toArray] w fun e w' => e = .returned (.string (str x.cb)) ∧ Below w.heap.size w w' := by
  have FI := Cm.fits hv
  have HFine := Lib.hid (fine FI.val.1)
  have hle := cb_len hv
  obtain ⟨w1, hw1⟩ : ∃ bx, bx = w.alloc (.cells x.cells.toArray 42) := ⟨_, rfl⟩
  obtain ⟨g, hg⟩ : ∃ bx, bx = w.heap.size := ⟨_, rfl⟩
  have bw1 : Below w.heap.size w w1 := by rw [hw1]; exact (Below.refl _ _).alloc (Nat.le_refl _) _
  have nw1 : w1.heap[g]? = some (.cells x.cells.toArray 42 (0, 0)) := by rw [hw1, hg]; exact heap_alloc_new _ _
  have Kw1 := Lib.hid (rowC nw1)
  have Cw1 := Lib.hid (cmC nw1)
  have Hw1 := Lib.hid hw1
  have Hg := Lib.hid hg
  have Bw1 := Lib.hid bw1
  have Nw1 := Lib.hid nw1
  clear hw1 hg bw1 nw1
  have HX1 := Lib.hid (hx.below (Bw1.out.mono hN))
  have HN1 := Lib.hid (Nat.le_trans hN Bw1.out.size)
  have ROW := Lib.hid (fun (W : World) (h : Below w1.heap.size w1 W) => cmC ((h.block g (lt_of_rowK Nw1.out)).trans Nw1.out))
  have FA := Lib.hid (fun W => rcA_any x.kind W)
  have FB := Lib.hid (fun W => rcB_any x.kind W)
  have FN := Lib.hid (fun W => rcN_any x.kind W)
  have FV := Lib.hid (fun W => rcV_any x.kind W)
  have NU := Lib.hid (fun (n : Nat) (h : n < 18446744073709551616) (W : World) => refNum_any n h W)
  have fkn := FI.kn; have fti := FI.time; have fa0 := FI.a.1; have fb0 := FI.b.1; have ma := hx.a.2; have mb := hx.b.2; have fnm := FI.name.1
  obtain ⟨Q0, hQ0⟩ : ∃ Q, Q = [UInt8.ofNat x.kind.toNat] := ⟨_, rfl⟩
  obtain ⟨Q2, hQ2⟩ : ∃ Q, Q = Q0 ++ enc x.time.toNat := ⟨_, rfl⟩
  obtain ⟨QA, hQA⟩ : ∃ Q, Q = Q2 ++ oI (cA x.kind) (enc x.a.toNat) := ⟨_, rfl⟩
  obtain ⟨QB, hQB⟩ : ∃ Q, Q = QA ++ oI (cB x.kind) (enc x.b.toNat) := ⟨_, rfl⟩
  obtain ⟨QN, hQN⟩ : ∃ Q, Q = QB ++ oI (cN x.kind) (enc x.name.length ++ x.name) := ⟨_, rfl⟩
  obtain ⟨QV, hQV⟩ : ∃ Q, Q = QN ++ oI (cV x.kind) x.val.vb := ⟨_, rfl⟩
  have heb : x.cb = QV := by
    rw [hQV, hQN, hQB, hQA, hQ2, hQ0]
    unfold Cm.cb
    simp only [List.append_assoc, List.cons_append, List.nil_append]
  rw [heb] at hle ⊢
  have ll : Q0.length ≤ Q2.length ∧ Q2.length ≤ QA.length ∧ QA.length ≤ QB.length ∧ QB.length ≤ QN.length ∧ QN.length ≤ QV.length ∧ QV.length ≤ 700 := by
    refine ⟨?_, ?_, ?_, ?_, ?_, hle⟩
    · rw [hQ2]; simp
    · rw [hQA]; simp
    · rw [hQB]; simp
    · rw [hQN]; simp
    · rw [hQV]; simp
  have c0 := Cw1.out.c0
  obtain ⟨k, hk⟩ : ∃ k, k = x.kind := ⟨_, rfl⟩
  obtain ⟨t, ht⟩ : ∃ k, k = x.time := ⟨_, rfl⟩
  obtain ⟨S0, hS0⟩ : ∃ S, S = str Q0 := ⟨_, rfl⟩
  obtain ⟨S2, hS2⟩ : ∃ S, S = str Q2 := ⟨_, rfl⟩
  obtain ⟨SA, hSA⟩ : ∃ S, S = str QA := ⟨_, rfl⟩
  obtain ⟨SB, hSB⟩ : ∃ S, S = str QB := ⟨_, rfl⟩
  obtain ⟨SN, hSN⟩ : ∃ S, S = str QN := ⟨_, rfl⟩
  obtain ⟨SV, hSV⟩ : ∃ S, S = str QV := ⟨_, rfl⟩
  obtain ⟨Z2, hZ2⟩ : ∃ S, S = str (enc x.time.toNat) := ⟨_, rfl⟩
  obtain ⟨ZA, hZA⟩ : ∃ S, S = str (enc x.a.toNat) := ⟨_, rfl⟩
  obtain ⟨ZB, hZB⟩ : ∃ S, S = str (enc x.b.toNat) := ⟨_, rfl⟩
  obtain ⟨ZN, hZN⟩ : ∃ S, S = str (enc x.name.length ++ x.name) := ⟨_, rfl⟩
  obtain ⟨ZV, hZV⟩ : ∃ S, S = str x.val.vb := ⟨_, rfl⟩
  have K01 := Lib.hid (show ∀ W, Below w1.heap.size w1 W → W.cell? ⟨g, 1, none⟩ = some (.int .i64 t) from fun W h => by rw [ht]; exact (ROW.out W h).c1)
  have C2 := Lib.hid (show ∀ W, Calls Tryz.prog 60 #[.int .u64 t] W fun e w' => e = .returned (.string Z2) ∧ Below W.heap.size W w' from fun W => by
    have h := NU.out x.time.toNat (by omega) W
    rw [show ((x.time.toNat : Nat) : Int) = t by omega, ← hZ2] at h; exact h)
  have CA := Lib.hid (show ∀ W, Calls Tryz.prog 60 #[.int .u64 x.a] W fun e w' => e = .returned (.string ZA) ∧ Below W.heap.size W w' from fun W => by
    have h := NU.out x.a.toNat (by omega) W
    rw [show ((x.a.toNat : Nat) : Int) = x.a by omega, ← hZA] at h; exact h)
  have CBq := Lib.hid (show ∀ W, Calls Tryz.prog 60 #[.int .u64 x.b] W fun e w' => e = .returned (.string ZB) ∧ Below W.heap.size W w' from fun W => by
    have h := NU.out x.b.toNat (by omega) W
    rw [show ((x.b.toNat : Nat) : Int) = x.b by omega, ← hZB] at h; exact h)
  have CN := Lib.hid (show ∀ W, Calls Tryz.prog 61 #[.string (str x.name)] W fun e w' => e = .returned (.string ZN) ∧ Below W.heap.size W w' from fun W => by
    have h := refText_any (str x.name) (by rw [str_sizeX]; omega) W
    rw [str_sizeX, str_appE, ← hZN] at h; exact h)
  have CV := Lib.hid (show ∀ W, Below w1.heap.size w1 W → Calls Tryz.prog 62 #[.agg x.val.cells.toArray] W fun e w' => e = .returned (.string ZV) ∧ Below W.heap.size W w' from fun W hW => by
    have h := rbytes_any x.val N W (HX1.out.val.below (hW.mono HN1.out)) HFine.out.kin (by have := HFine.out.vb; omega) (Nat.le_trans HN1.out hW.size)
    unfold StrI at h
    rw [← hZV] at h; exact h)
  have a2 : S0 ++ Z2 = S2 := by rw [hS0, hZ2, hS2, hQ2, str_appE]
  have aA : SA = if cA x.kind = true then S2 ++ ZA else S2 := by rw [hSA, hQA, hZA, hS2]; cases cA x.kind <;> simp [oI, str_appE]
  have aB : SB = if cB x.kind = true then SA ++ ZB else SA := by rw [hSB, hQB, hZB, hSA]; cases cB x.kind <;> simp [oI, str_appE]
  have aN : SN = if cN x.kind = true then SB ++ ZN else SB := by rw [hSN, hQN, hZN, hSB]; cases cN x.kind <;> simp [oI, str_appE]
  have aV : SV = if cV x.kind = true then SN ++ ZV else SN := by rw [hSV, hQV, hZV, hSN]; cases cV x.kind <;> simp [oI, str_appE]
  have z1 : S0.size + Z2.size = S2.size := by rw [← a2]; simp
  have zs : S2.size ≤ 700 ∧ SA.size ≤ 700 ∧ SB.size ≤ 700 ∧ SN.size ≤ 700 ∧ SV.size ≤ 700 := by
    rw [hS2, hSA, hSB, hSN, hSV, str_sizeX, str_sizeX, str_sizeX, str_sizeX, str_sizeX]; omega
  have CO := Lib.hid (show ∀ (W : World) g8, W.heap[g8]? = some (.cells #[.int .u8 k] 5 (0, 0)) → (convert 36 9 (.slice (some ⟨g8, 0, none⟩) 1 1)).run Tryz.prog W = .ok (.string S0) W from fun W g8 h8 => by
    rw [hS0, hQ0]
    refine run_convert_sl rfl (fun e => by cases e) (fun a ha j u hu => ?_)
    cases ha
    rw [Addr.add_mid, Nat.zero_add, cell_of_rowW W g8 j _ _ _ h8]
    match j, hu with
    | 0, hu =>
      obtain rfl := Option.some.inj hu
      show some (Value.int .u8 k) = some (bv _)
      unfold bv
      rw [hk, u8_kd ⟨fkn.1, by omega⟩]
    | j + 1, hu => simp [bvs] at hu)
  have A2 := Lib.hid a2
  have ZZ := Lib.hid (show S0.size + Z2.size = S2.size ∧ S2.size ≤ 700 ∧ SA.size ≤ 700 ∧ SB.size ≤ 700 ∧ SN.size ≤ 700 ∧ SV.size ≤ 700 from ⟨z1, zs⟩)
  have BD := Lib.hid (show (1 ≤ k ∧ k ≤ 6) ∧ (1 ≤ 1 ∧ 1 ≤ 1048576) ∧ (0 ≤ t ∧ t ≤ 4611686018427387903) ∧ (0 ≤ x.a ∧ x.a ≤ 9223372036854775807) ∧ (0 ≤ x.b ∧ x.b ≤ 9223372036854775807) from by rw [hk, ht]; exact ⟨fkn, by omega, fti, ⟨fa0, ma⟩, fb0, mb⟩)
  obtain ⟨fa, hfa⟩ : ∃ f, f = cA x.kind := ⟨_, rfl⟩
  obtain ⟨fb, hfb⟩ : ∃ f, f = cB x.kind := ⟨_, rfl⟩
  obtain ⟨fn, hfn⟩ : ∃ f, f = cN x.kind := ⟨_, rfl⟩
  obtain ⟨fv, hfv⟩ : ∃ f, f = cV x.kind := ⟨_, rfl⟩
  rw [← hfa, ← hk] at FA
  rw [← hfb, ← hk] at FB
  rw [← hfn, ← hk] at FN
  rw [← hfv, ← hk] at FV
  rw [← hfa] at aA
  rw [← hfb] at aB
  rw [← hfn] at aN
  rw [← hfv] at aV
  have AA := Lib.hid aA
  have AB := Lib.hid aB
  have AN := Lib.hid aN
  have AV := Lib.hid aV
  rw [← hSV]
  rw [← hk] at c0
  clear hQ0 hQ2 hQA hQB hQN hQV heb hle ll hk ht hS0 hS2 hSA hSB hSN hSV hZ2 hZA hZB hZN hZV a2 aA aB aN aV z1 zs hfa hfb hfn hfv fkn fti fa0 fb0 ma mb fnm FI hx hv NU
  go_enter Tryz.func80, Tryz.ntmps80
  go_upto_region 1 with fail
  rw [← Hw1.out, ← Hg.out]
  go_upto_region 2 with fail
  clear c0
  refine wp_region_slotsG (by kernel_rfl) (by kernel_rfl)
    (fun y => ⟨#[.agg x.cells.toArray, .pointer (some ⟨g, 0, none⟩), .string ⟨#[]⟩, .int .i64 k, y 9, .pointer (some ⟨g, 0, none⟩), .int .i64 k, y 0, y 1, y 2, y 3, y 4, y 5, y 6, y 7, y 8, undef, undef, undef, undef, undef, undef, undef, undef, undef, undef, undef, undef, undef, undef, undef, undef, undef, undef, undef, undef, undef, undef, undef, undef, undef, undef, undef, undef, undef, undef, undef], []⟩)
    (fun j q W => match j with | 0 => q = .int .i64 k | 1 => q = .int .u8 k | 2 => ∃ g8, q = .slice (some ⟨g8, 0, none⟩) 1 1 ∧ W.heap[g8]? = some (.cells #[.int .u8 k] 5 (0, 0)) | 3 => q = .string S0 | 4 => q = .pointer (some ⟨g, 1, none⟩) | 5 => q = .int .i64 t | 6 => q = .int .u64 t | 7 => q = .string Z2 | 8 => q = .string S2 | 9 => q = .string S2 | _ => True)
    (fun L W => Below w1.heap.size w1 W) (fun W W' => Below W.heap.size W W') ?_ ?_ ?_ (fun _ => undef) rfl (below_drewG (Below.refl _ _) 1)
  · intro j q W W' hr hf
    match j, hf with
    | 2, ⟨g8, h1, h3⟩ => exact ⟨g8, h1, (hr.block g8 (lt_of_rowW h3)).trans h3⟩
    | 0, h => exact h
    | 1, h => exact h
    | 3, h => exact h
    | 4, h => exact h
    | 5, h => exact h
    | 6, h => exact h
    | 7, h => exact h
    | 8, h => exact h
    | 9, h => exact h
    | k + 10, _ => trivial
  · intro i' o ho L y wx hd hi' hx hs
    match i', ho with
    | 0, ho =>
      obtain rfl := Option.some.inj ho
      refine .inl ⟨rfl, ?_⟩
      exact slot_run (v := .int .i64 k) (w' := wx) rfl ⟨_, rfl, Below.refl _ _, rfl, hs⟩
    | 1, ho =>
      obtain rfl := Option.some.inj ho
      refine .inl ⟨rfl, ?_⟩
      have y0 : y 0 = .int .i64 k := hx 0 (hd ⟨0, .data⟩ (by simp) rfl)
      have bk := BD.out.1
      refine slot_run (v := .int .u8 k) (w' := wx) ?_ ⟨_, rfl, Below.refl _ _, rfl, hs⟩
      refine runWithK (fun z => match z with | .tmp 7 => y 0 | .const c => c | _ => undef) (by kernel_rfl) ?_
      rw [y0]
      go_simp
      simp [IntKind.wrap, IntKind.bits, IntKind.signed]
      omega
    | 2, ho =>
      obtain rfl := Option.some.inj ho
      refine .inl ⟨rfl, ?_⟩
      have y0 : y 1 = .int .u8 k := hx 1 (hd ⟨1, .data⟩ (by simp) rfl)
      have hb : Below wx.heap.size wx (wx.alloc (.cells #[.int .u8 k] 5)) := (Below.refl _ _).alloc (Nat.le_refl _) _
      refine slot_run (v := .slice (some ⟨wx.heap.size, 0, none⟩) 1 1) (w' := wx.alloc (.cells #[.int .u8 k] 5)) ?_ ⟨_, rfl, hb, ⟨_, rfl, heap_alloc_new _ _⟩, hs.trans (hb.mono hs.size)⟩
      refine runWithK (fun z => match z with | .tmp 8 => y 1 | .const c => c | _ => undef) (by kernel_rfl) ?_
      rw [y0]
      go_simp
    | 3, ho =>
      obtain rfl := Option.some.inj ho
      refine .inl ⟨rfl, ?_⟩
      obtain ⟨g8, y0, h8⟩ := hx 2 (hd ⟨2, .data⟩ (by simp) rfl)
      have cv := CO.out wx g8 h8
      refine slot_run (v := .string S0) (w' := wx) ?_ ⟨_, rfl, Below.refl _ _, rfl, hs⟩
      refine runWithK (fun z => match z with | .tmp 9 => y 2 | .const c => c | _ => undef) (by kernel_rfl) ?_
      rw [y0]
      go_simp
    | 4, ho =>
      obtain rfl := Option.some.inj ho
      refine .inl ⟨rfl, ?_⟩
      exact slot_run (v := .pointer (some ⟨g, 1, none⟩)) (w' := wx) rfl ⟨_, rfl, Below.refl _ _, rfl, hs⟩
    | 5, ho =>
      obtain rfl := Option.some.inj ho
      refine .inl ⟨rfl, ?_⟩
      have y0 : y 4 = .pointer (some ⟨g, 1, none⟩) := hx 4 (hd ⟨4, .data⟩ (by simp) rfl)
      have hc := K01.out wx hs
      refine slot_run (v := .int .i64 t) (w' := wx) ?_ ⟨_, rfl, Below.refl _ _, rfl, hs⟩
      refine runWithK (fun z => match z with | .tmp 11 => y 4 | .const c => c | _ => undef) (by kernel_rfl) ?_
      rw [y0]
      go_simp
    | 6, ho =>
      obtain rfl := Option.some.inj ho
      refine .inl ⟨rfl, ?_⟩
      have y0 : y 5 = .int .i64 t := hx 5 (hd ⟨5, .data⟩ (by simp) rfl)
      have bk := BD.out.2.2.1.1
      have bk2 : t < 9223372036854775808 := by have := BD.out.2.2.1.2; omega
      refine slot_run (v := .int .u64 t) (w' := wx) ?_ ⟨_, rfl, Below.refl _ _, rfl, hs⟩
      refine runWithK (fun z => match z with | .tmp 12 => y 5 | .const c => c | _ => undef) (by kernel_rfl) ?_
      rw [y0]
      go_simp
      simp [IntKind.wrap, IntKind.bits, IntKind.signed]
      omega
    | 7, ho =>
      obtain rfl := Option.some.inj ho
      refine .inl ⟨rfl, ?_⟩
      have y0 : y 6 = .int .u64 t := hx 6 (hd ⟨6, .data⟩ (by simp) rfl)
      refine slot_call #[.int .u64 t] rfl Tryz.func60 (by kernel_rfl) (by kernel_rfl) (by simp [Act.eval, y0]) ?_
      refine (C2.out wx).mono ?_
      rintro e w' ⟨rfl, hb⟩
      exact ⟨_, rfl, _, rfl, hb, rfl, hs.trans (hb.mono hs.size)⟩
    | 8, ho =>
      obtain rfl := Option.some.inj ho
      refine .inl ⟨rfl, ?_⟩
      have y0 : y 3 = .string S0 := hx 3 (hd ⟨3, .data⟩ (by simp) rfl)
      have y1 : y 7 = .string Z2 := hx 7 (hd ⟨7, .data⟩ (by simp) rfl)
      have hz := ZZ.out
      have hz2 : ¬ maxLen < S0.size + Z2.size := by unfold maxLen; omega
      have hz3 : S0.size + Z2.size ≤ 9223372036854775807 := by omega
      refine slot_run (v := .string S2) (w' := wx) ?_ ⟨_, rfl, Below.refl _ _, rfl, hs⟩
      refine runWithK (fun z => match z with | .tmp 10 => y 3 | .tmp 14 => y 7 | .const c => c | _ => undef) (by kernel_rfl) ?_
      rw [y0, y1]
      rw [← A2.out]
      go_simp
      omega
    | 9, ho =>
      obtain rfl := Option.some.inj ho
      refine .inl ⟨rfl, ?_⟩
      have y0 : y 8 = .string S2 := hx 8 (hd ⟨8, .data⟩ (by simp) rfl)
      refine slot_run (v := .string S2) (w' := wx) ?_ ⟨_, rfl, Below.refl _ _, rfl, hs⟩
      refine runWithK (fun z => match z with | .tmp 15 => y 8 | .const c => c | _ => undef) (by kernel_rfl) ?_
      rw [y0]
      kernel_rfl
    | k + 10, ho => simp at ho
  · intro L y w3 hall hx hs
    have y9 : y 9 = .string S2 := hx 9 (hall 9 (by decide))
    rw [y9]
    have B0 := Lib.hid hs
    clear hx hall y9 hs
    dsimp only
    go_upto_if 17 with (with_reducible refine (FA.out _).mono ?_; rintro _ wz ⟨rfl, hwz⟩; have hwz2 := hwz.symm; subst hwz2; clear hwz)
    go_cut [4] (fun s wx => s = .string SA ∧ Below w1.heap.size w1 wx)
    case first =>
      cases fa
      · obtain rfl : SA = S2 := AA.out
        go_wp2_with fail
        go_meet
        all_goals exact ⟨rfl, B0.out⟩
      · have ha : SA = S2 ++ ZA := AA.out
        have hsz : S2.size + ZA.size ≤ 700 := by
          have := ZZ.out
          have h2 : SA.size = S2.size + ZA.size := by rw [ha]; simp
          omega
        have hz2 : ¬ maxLen < S2.size + ZA.size := by unfold maxLen; omega
        have HSZ := Lib.hid hsz
        have HA := Lib.hid ha
        have cc := (ROW.out w3 B0.out).c2
        have b1 := BD.out.2.2.2.1.1
        have b2 : x.a < 9223372036854775808 := by have := BD.out.2.2.2.1.2; omega
        clear hsz ha
        go_wp2_with fail
        refine (CA.out _).mono ?_
        rintro e wy ⟨rfl, hy⟩
        have RL := Lib.hid (B0.out.trans (hy.mono B0.out.size))
        have hsz := HSZ.out
        clear hy
        go_wp2_with fail
        go_meet
        all_goals exact ⟨by rw [HA.out], RL.out⟩
    case rest =>
      obtain ⟨w4, rfl⟩ : ∃ wd : World, wd = wc := ⟨_, rfl⟩
      obtain ⟨rfl, hb⟩ := hcut
      have B1 := Lib.hid hb
      clear hb B0
      go_upto_if 25 with (with_reducible refine (FB.out _).mono ?_; rintro _ wz ⟨rfl, hwz⟩; have hwz2 := hwz.symm; subst hwz2; clear hwz)
      go_cut [4] (fun s wx => s = .string SB ∧ Below w1.heap.size w1 wx)
      case first =>
        cases fb
        · obtain rfl : SB = SA := AB.out
          go_wp2_with fail
          go_meet
          all_goals exact ⟨rfl, B1.out⟩
        · have ha : SB = SA ++ ZB := AB.out
          have hsz : SA.size + ZB.size ≤ 700 := by
            have := ZZ.out
            have h2 : SB.size = SA.size + ZB.size := by rw [ha]; simp
            omega
          have hz2 : ¬ maxLen < SA.size + ZB.size := by unfold maxLen; omega
          have HSZ := Lib.hid hsz
          have HA := Lib.hid ha
          have cc := (ROW.out w4 B1.out).c3
          have b1 := BD.out.2.2.2.2.1
          have b2 : x.b < 9223372036854775808 := by have := BD.out.2.2.2.2.2; omega
          clear hsz ha
          go_wp2_with fail
          refine (CBq.out _).mono ?_
          rintro e wy ⟨rfl, hy⟩
          have RL := Lib.hid (B1.out.trans (hy.mono B1.out.size))
          have hsz := HSZ.out
          clear hy
          go_wp2_with fail
          go_meet
          all_goals exact ⟨by rw [HA.out], RL.out⟩
      case rest =>
        obtain ⟨w5, rfl⟩ : ∃ wd : World, wd = wc := ⟨_, rfl⟩
        obtain ⟨rfl, hb⟩ := hcut
        have B2 := Lib.hid hb
        clear hb B1
        go_upto_if 33 with (with_reducible refine (FN.out _).mono ?_; rintro _ wz ⟨rfl, hwz⟩; have hwz2 := hwz.symm; subst hwz2; clear hwz)
        go_cut [4] (fun s wx => s = .string SN ∧ Below w1.heap.size w1 wx)
        case first =>
          cases fn
          · obtain rfl : SN = SB := AN.out
            go_wp2_with fail
            go_meet
            all_goals exact ⟨rfl, B2.out⟩
          · have ha : SN = SB ++ ZN := AN.out
            have hsz : SB.size + ZN.size ≤ 700 := by
              have := ZZ.out
              have h2 : SN.size = SB.size + ZN.size := by rw [ha]; simp
              omega
            have hz2 : ¬ maxLen < SB.size + ZN.size := by unfold maxLen; omega
            have HSZ := Lib.hid hsz
            have HA := Lib.hid ha
            have cc := (ROW.out w5 B2.out).c4
            clear hsz ha
            go_wp2_with fail
            refine (CN.out _).mono ?_
            rintro e wy ⟨rfl, hy⟩
            have RL := Lib.hid (B2.out.trans (hy.mono B2.out.size))
            have hsz := HSZ.out
            clear hy
            go_wp2_with fail
            go_meet
            all_goals exact ⟨by rw [HA.out], RL.out⟩
        case rest =>
          obtain ⟨w6, rfl⟩ : ∃ wd : World, wd = wc := ⟨_, rfl⟩
          obtain ⟨rfl, hb⟩ := hcut
          have B3 := Lib.hid hb
          clear hb B2
          go_upto_if 40 with (with_reducible refine (FV.out _).mono ?_; rintro _ wz ⟨rfl, hwz⟩; have hwz2 := hwz.symm; subst hwz2; clear hwz)
          go_cut [4] (fun s wx => s = .string SV ∧ Below w1.heap.size w1 wx)
          case first =>
            cases fv
            · obtain rfl : SV = SN := AV.out
              go_wp2_with fail
              go_meet
              all_goals exact ⟨rfl, B3.out⟩
            · have ha : SV = SN ++ ZV := AV.out
              have hsz : SN.size + ZV.size ≤ 700 := by
                have := ZZ.out
                have h2 : SV.size = SN.size + ZV.size := by rw [ha]; simp
                omega
              have hz2 : ¬ maxLen < SN.size + ZV.size := by unfold maxLen; omega
              have HSZ := Lib.hid hsz
              have HA := Lib.hid ha
              have KV := Lib.hid ((ROW.out w6 B3.out).cv)
              have CC := Lib.hid (CV.out w6 B3.out)
              clear hsz ha
              go_wp2_with (with_reducible show wpList _ _ _ _ _ _; refine wpList_load_allW rfl 26 (.tmp 42) rfl ⟨g,5,none⟩ rfl x.val.cells _ KV.out Tryz.underlying26 rfl (Tryz.valSize x.val) ?_)
              refine CC.out.mono ?_
              rintro e wy ⟨rfl, hy⟩
              have RL := Lib.hid (B3.out.trans (hy.mono B3.out.size))
              have hsz := HSZ.out
              clear hy
              go_wp2_with fail
              go_meet
              all_goals exact ⟨by rw [HA.out], RL.out⟩
          case rest =>
            obtain ⟨w8, rfl⟩ : ∃ wd : World, wd = wc := ⟨_, rfl⟩
            obtain ⟨rfl, hb⟩ := hcut
            have B5 := Lib.hid hb
            clear hb B3
            go_wp2_with fail
            go_ret
            exact ⟨rfl, Bw1.out.trans (B5.out.mono Bw1.out.size)⟩

def rbRel (w : World) (l : List Cm) (sv iv : Value) (wr : World) : Prop := ∃ j : Nat, iv = .int .i64 (j : Int) ∧ j ≤ l.length ∧ sv = .string (str (enc l.length ++ cbL (l.take j))) ∧ Below w.heap.size w wr
set_option maxHeartbeats 8000000 in
set_option maxRecDepth 100000 in
theorem rcbytes_any (ao : Option Addr) (c : Nat) (l : List Cm) (N : Nat) (w : World) (hv : CL N w ao l) (hN : N ≤ w.heap.size) (h : allE l = 0) : Calls Tryz.prog 26 #[.slice ao l.length c] w fun e w' => e = .returned (.string (str (cbA l))) ∧ Below w.heap.size w w' := by
  have hll := hv.len
  have NU := Lib.hid (fun W => refNum_any l.length (by omega) W)
  have HV := Lib.hid hv
  have HN := Lib.hid hN
  have HOK := Lib.hid (allE_ok h)
  have HSZ := Lib.hid (cbA_len h)
  obtain ⟨n, hn⟩ : ∃ n, n = l.length := ⟨_, rfl⟩
  rw [← hn] at NU hll ⊢
  have HNL := Lib.hid hn
  have hn18 : n < 18446744073709551616 := by omega
  clear hv hN h hn
  go_enter Tryz.func26, Tryz.ntmps26
  go_wp2_with fail
  refine (NU.out _).mono ?_
  rintro e w1 ⟨rfl, hb1⟩
  have r0 : rbRel w l (.string (str (enc n))) (.int .i64 0) w1 := ⟨0, rfl, Nat.zero_le _, by rw [HNL.out]; simp [cbL], hb1⟩
  obtain ⟨s0, hs0⟩ : ∃ s, s = str (enc n) := ⟨_, rfl⟩
  rw [← hs0] at r0 ⊢
  have R0 := Lib.hid r0
  clear r0 hs0 hb1
  go_wp2_with fail
  go_loopw [3, 4] (fun sv i wr => rbRel w l sv i wr) (fun _ i _ => n - (intOf i).toNat)
  case atStart => exact R0.out
  case round =>
    obtain ⟨wq, rfl⟩ : ∃ wq : World, wq = wr := ⟨_, rfl⟩
    obtain ⟨j, rfl, hj, rfl, hbq⟩ := hrel
    have q0 : (0 : Int) ≤ (j : Int) := by omega
    have BQ := Lib.hid hbq
    rw [← HNL.out] at hj
    clear hbq R0
    by_cases hjn : j < n
    · have q1 : (j : Int) < (n : Int) := by omega
      obtain ⟨x, hx⟩ : ∃ x, l[j]? = some x := ⟨_, List.getElem?_eq_getElem (by rw [← HNL.out]; exact hjn)⟩
      obtain ⟨hxv, ad, rfl, had, hxc⟩ := HV.out.elem hx
      have nb : ∀ k, k < N → wq.heap[k]? = w.heap[k]? := fun k hk => BQ.out.block k (Nat.lt_of_lt_of_le hk HN.out)
      have kx := Lib.hid (hxc wq nb)
      have CK := Lib.hid (rcone_any x N wq (hxv.below (BQ.out.mono HN.out)) (HOK.out.2 x (List.mem_of_getElem? hx)) (Nat.le_trans HN.out BQ.out.size))
      have ht := cbL_take hx
      have hle := cbL_take_le l (j + 1)
      have hsz := HSZ.out
      unfold cbA at hsz
      rw [List.length_append] at hsz
      obtain ⟨S1, hS1⟩ : ∃ S, S = str (enc l.length ++ cbL (l.take j)) := ⟨_, rfl⟩
      obtain ⟨Z, hZ⟩ : ∃ S, S = str x.cb := ⟨_, rfl⟩
      have ha : S1 ++ Z = str (enc l.length ++ cbL (l.take (j + 1))) := by rw [hS1, hZ, str_appE, ht, List.append_assoc]
      have hs2 : S1.size + Z.size ≤ 200000 := by
        have h2 : (S1 ++ Z).size = S1.size + Z.size := by simp
        rw [← h2, ha, str_sizeX, List.length_append]
        omega
      rw [← hZ] at CK
      rw [← hS1]
      have HA := Lib.hid ha
      have HS2 := Lib.hid hs2
      clear ha hs2 hS1 hZ ht hle hsz hxv had hxc nb hx
      go_wp2_with (first | (with_reducible show wpList _ _ _ _ _ _; refine wpList_load_allW rfl 42 (.tmp 18) rfl _ rfl x.cells _ kx.out Tryz.underlying42 rfl (Tryz.cmSize x) ?_))
      refine CK.out.mono ?_
      rintro e w2 ⟨rfl, hb2⟩
      have RL := Lib.hid (show rbRel w l (.string (S1 ++ Z)) (.int .i64 ((j + 1 : Nat) : Int)) w2 from ⟨j + 1, rfl, by rw [← HNL.out]; exact hjn, by rw [HA.out], BQ.out.trans (hb2.mono BQ.out.size)⟩)
      have hs2 := HS2.out
      have hz2 : ¬ maxLen < S1.size + Z.size := by unfold maxLen; omega
      clear hb2
      go_wp2_with fail
      exact ⟨RL.out, by simp [intOf]; omega⟩
    · have q1 : ¬ (j : Int) < (n : Int) := by omega
      have he : str (enc l.length ++ cbL (l.take j)) = str (cbA l) := by
        rw [List.take_of_length_le (by rw [← HNL.out]; omega)]
        rfl
      rw [he]
      obtain ⟨S, hS⟩ : ∃ S, S = str (cbA l) := ⟨_, rfl⟩
      rw [← hS]
      have HS := Lib.hid hS
      clear he hS
      go_wp2_with fail
      go_ret
      exact ⟨show Ending.returned (.string S) = .returned (.string (str (cbA l))) by rw [HS.out], BQ.out⟩
end Go.Proofs.YtnfobnnbeefeeaaGreatDoor.Wi
