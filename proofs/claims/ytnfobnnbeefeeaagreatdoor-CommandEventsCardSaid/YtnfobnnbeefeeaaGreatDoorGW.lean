/- Print. -/
import Derived.Test.YtnfobnnbeefeeaaGreatDoorGT
import Derived.Test.YtnfobnnbeefeeaaGreatDoorGN
import Derived.Test.YtnfobnnbeefeeaaGreatDoorGR
namespace Go.Proofs.YtnfobnnbeefeeaaGreatDoor.Wi
open Go Go.RowKit
set_option linter.unusedVariables false
set_option linter.unusedSimpArgs false
theorem cdecimal_any (n : Int) (hn : -9223372036854775808 ≤ n ∧ n ≤ 9223372036854775807) (w : World) (ht : Lib.TabIs Tryz.prog w "internal/strconv.uint64pow10" .u64 Lib.pow10Tab) : Calls Tryz.prog 87 #[.int .i64 n] w fun e w' => e = .returned (.string (str (Lib.itoa n))) ∧ Below w.heap.size w w' := by
  have FI := Tryz.strconv_FormatInt_10 n hn.1 hn.2 w ht
  rw [show (⟨(Lib.itoa n).toArray⟩ : ByteArray) = str (Lib.itoa n) from rfl] at FI
  obtain ⟨S, hS⟩ : ∃ S, S = str (Lib.itoa n) := ⟨_, rfl⟩
  rw [← hS] at FI ⊢
  clear hS ht hn
  go_enter Tryz.func87, Tryz.ntmps87
  go_wp2_with fail
  refine FI.mono ?_
  rintro e w2 ⟨rfl, k, os, hw⟩
  have hb : Below w.heap.size w w2 := by rw [hw]; exact Lib.below_grow _ w (Nat.le_refl _) k os
  clear hw
  go_wp2_with fail
  go_ret
  exact ⟨rfl, hb⟩
theorem WdS.beyond {w1 wx wy : World} {L : List ByteArray} {s : Value} (h : WdS w1 L s wx) (hb : Below wx.heap.size wx wy) : WdS w1 L s wy := by
  obtain ⟨ao, c, e, own, hb1⟩ := h
  exact ⟨ao, c, e, own_belowK own hb, hb1.trans (hb.mono hb1.size)⟩
def Cm.wds (x : Cm) : List (List UInt8) := [64 :: Lib.itoa x.time, cNm x.kind] ++ oW (cA x.kind) (Lib.itoa x.a) ++ oW (cB x.kind) (Lib.itoa x.b) ++ oW (cN x.kind) (qt x.name) ++ oW (cV x.kind) x.val.pv
theorem cwds_ln (x : Cm) : Lib.join x.wds [32] = x.ln := by
  unfold Cm.wds Cm.ln
  rw [show ([64 :: Lib.itoa x.time, cNm x.kind] : List (List UInt8)) = (64 :: Lib.itoa x.time) :: [cNm x.kind] from rfl]
  simp only [List.cons_append]
  rw [Lib.join_cons]
  have e : ∀ (b : List UInt8) (r : List (List UInt8)), Lib.joinTail [32] (b :: r) = 32 :: (b ++ Lib.joinTail [32] r) := by intro b r; simp [Lib.joinTail]
  rw [e]
  simp only [List.nil_append, joinTail_app, oW_tail, List.append_assoc, List.cons_append]
theorem cln_le {x : Cm} (h : x.vE = 0) {N : Nat} {w : World} (hx : x.At N w) : x.ln.length ≤ 300000 := by
  have FI := Cm.fits h
  have hp := (fine FI.val.1).pz
  have hv := pv_len x.val N w hx.val
  have h2 := itoa_len x.time hx.time
  have h3 := itoa_len x.a hx.a
  have h4 := itoa_len x.b hx.b
  have h5 := qcs_len x.name
  have f5 := FI.name.1
  have n1 : (cNm x.kind).length ≤ 30 := by
    have : ∀ i : Fin 6, (cNms.getD i.val []).length ≤ 30 := by decide +kernel
    unfold cNm
    rw [if_pos FI.kn]
    exact this ⟨x.kind.toNat - 1, by have := FI.kn; omega⟩
  have o : ∀ (c : Bool) (l : List UInt8), (oL c l).length ≤ l.length + 1 := by intro c l; cases c <;> simp [oL]
  have o1 := o (cA x.kind) (Lib.itoa x.a)
  have o2 := o (cB x.kind) (Lib.itoa x.b)
  have o3 := o (cN x.kind) (qt x.name)
  have o5 := o (cV x.kind) x.val.pv
  have q1 : (qt x.name).length = (qcs x.name).length + 2 := by simp [qt]
  unfold Cm.ln
  simp only [List.length_append, List.length_cons]
  omega
set_option maxHeartbeats 16000000 in
set_option maxRecDepth 100000 in
theorem cprint_any (x : Cm) (N : Nat) (w : World) (hx : x.At N w) (hv : x.vE = 0) (hN : N ≤ w.heap.size) (he : CB N w) : Calls Tryz.prog 38 #[.agg x.cells.toArray] w fun e w' => e = .returned (.string (str x.ln)) ∧ Below w.heap.size w w' := by
  have FI := Cm.fits hv
  have HFine := Lib.hid (fine FI.val.1)
  have HLN := Lib.hid (cln_le hv hx)
  obtain ⟨w0, hw0⟩ : ∃ bx, bx = w.alloc (.cells x.cells.toArray 42) := ⟨_, rfl⟩
  obtain ⟨g, hg⟩ : ∃ bx, bx = w.heap.size := ⟨_, rfl⟩
  have bw0 : Below w.heap.size w w0 := by rw [hw0]; exact (Below.refl _ _).alloc (Nat.le_refl _) _
  have nw0 : w0.heap[g]? = some (.cells x.cells.toArray 42 (0, 0)) := by rw [hw0, hg]; exact heap_alloc_new _ _
  have Kw0 := Lib.hid (rowC nw0)
  have Cw0 := Lib.hid (cmC nw0)
  have Hw0 := Lib.hid hw0
  have Hg := Lib.hid hg
  have Bw0 := Lib.hid bw0
  have Nw0 := Lib.hid nw0
  clear hw0 hg bw0 nw0
  have AB := Lib.hid (cabout_any x.kind hx.kind w0 ((he.on (Bw0.out.mono hN)).base (Nat.le_trans hN Bw0.out.size)))
  have HK := hasC x.kind
  have HFA := Lib.hid HK.a
  have HFB := Lib.hid HK.b
  have HFN := Lib.hid HK.n
  have HFV := Lib.hid HK.v
  have HX := Lib.hid hx
  have HE := Lib.hid he
  have HN := Lib.hid hN
  have QT := Lib.hid (fun (l : List UInt8) (hl : 4 * l.length + 8 ≤ 140737488355328) (W : World) => vquote_any l W hl)
  have SZ := Lib.hid (show x.name.length ≤ 64 from FI.name.1)
  have c0 := Cw0.out.c0
  obtain ⟨F, hF⟩ : ∃ F, F = shK x.kind := ⟨_, rfl⟩
  rw [← hF] at AB HFA HFB HFN HFV
  have FNM := Lib.hid (show F.nm = cNm x.kind by rw [hF]; rfl)
  clear hF HK
  obtain ⟨k, hk⟩ : ∃ k, k = x.kind := ⟨_, rfl⟩
  rw [← hk] at AB c0
  have HKk := Lib.hid hk
  clear hk hx hv hN he FI
  have hwl := cwds_ln x
  unfold Cm.wds at hwl
  obtain ⟨LN, hLN⟩ : ∃ LN, LN = x.ln := ⟨_, rfl⟩
  rw [← hLN] at hwl HLN ⊢
  obtain ⟨SL, hSL⟩ : ∃ S, S = str LN := ⟨_, rfl⟩
  rw [← hSL]
  have HSL := Lib.hid hSL
  clear hSL
  have HWL := Lib.hid hwl
  clear hwl hLN
  go_enter Tryz.func38, Tryz.ntmps38
  go_upto_region 1 with fail
  rw [← Hw0.out, ← Hg.out]
  go_wp2_with fail
  refine AB.out.mono ?_
  rintro e wa ⟨rfl, hba⟩
  obtain ⟨w1, hw1⟩ : ∃ bx, bx = wa.alloc (.cells F.cells.toArray 87) := ⟨_, rfl⟩
  obtain ⟨g3, hg3⟩ : ∃ bx, bx = wa.heap.size := ⟨_, rfl⟩
  have bw1 : Below wa.heap.size wa w1 := by rw [hw1]; exact (Below.refl _ _).alloc (Nat.le_refl _) _
  have nw1 : w1.heap[g3]? = some (.cells F.cells.toArray 87 (0, 0)) := by rw [hw1, hg3]; exact heap_alloc_new _ _
  have Kw1 := Lib.hid (rowS nw1)
  have Hw1 := Lib.hid hw1
  have Hg3 := Lib.hid hg3
  have Bw1 := Lib.hid bw1
  have Nw1 := Lib.hid nw1
  clear hw1 hg3 bw1 nw1
  have B01 := Lib.hid (hba.trans (Bw1.out.mono hba.size))
  have BW := Lib.hid (Bw0.out.trans (B01.out.mono Bw0.out.size))
  clear hba c0
  go_upto_region 2 with (with_reducible show wpList _ _ _ _ _ _; refine wpList_store_newW rfl 87 (.tmp 3) (.tmp 7) rfl 87 _ F.cells.toArray rfl rfl (Tryz.shSize' F) (by with_unfolding_all exact Sh.three F) F.cells_one ?_; rw [← Hw1.out, ← Hg3.out])
  simp only [Act.put, List.setIfInBounds_toArray, List.set_cons_zero, List.set_cons_succ, List.getElem_toArray, List.getElem_cons_zero, List.getElem_cons_succ]
  have E1 := Lib.hid ((HE.out.eb.on (BW.out.mono HN.out)).base (Nat.le_trans HN.out BW.out.size))
  have DE := Lib.hid (fun (n : Int) (hn : -9223372036854775808 ≤ n ∧ n ≤ 9223372036854775807) (W : World) (h : Below w1.heap.size w1 W) => cdecimal_any n hn W (E1.out.tab W h))
  have HX1 := Lib.hid (HX.out.below (BW.out.mono HN.out))
  have HN1 := Lib.hid (Nat.le_trans HN.out BW.out.size)
  have VP := Lib.hid (fun (W : World) (h : Below w1.heap.size w1 W) => vprint_any x.val HFine.out.dpr N W (HX1.out.val.below (h.mono HN1.out)) (Nat.le_trans HN1.out h.size) (by have := HFine.out.pz; omega) (((E1.out.on h).base h.size).tab))
  have n01 := Lib.hid ((B01.out.block g (lt_of_rowK Nw0.out)).trans Nw0.out)
  have ROW := Lib.hid (fun (W : World) (h : Below w1.heap.size w1 W) => cmC ((h.block g (lt_of_rowK n01.out)).trans n01.out))
  have KF := Lib.hid (fun (W : World) (h : Below w1.heap.size w1 W) => rowS ((h.block g3 (lt_of_rowK Nw1.out)).trans Nw1.out))
  have BD := Lib.hid HX.out

  obtain ⟨fa, hfa⟩ : ∃ f, f = cA x.kind := ⟨_, rfl⟩
  obtain ⟨fb, hfb⟩ : ∃ f, f = cB x.kind := ⟨_, rfl⟩
  obtain ⟨fn, hfn⟩ : ∃ f, f = cN x.kind := ⟨_, rfl⟩
  obtain ⟨fv, hfv⟩ : ∃ f, f = cV x.kind := ⟨_, rfl⟩
  obtain ⟨M, hM⟩ : ∃ M, M = str (cNm x.kind) := ⟨_, rfl⟩
  obtain ⟨Bq, hBq⟩ : ∃ A, A = str (Lib.itoa x.time) := ⟨_, rfl⟩
  obtain ⟨T, hT⟩ : ∃ A, A = str (64 :: Lib.itoa x.time) := ⟨_, rfl⟩
  obtain ⟨ZA, hZA⟩ : ∃ A, A = str (Lib.itoa x.a) := ⟨_, rfl⟩
  obtain ⟨ZB, hZB⟩ : ∃ A, A = str (Lib.itoa x.b) := ⟨_, rfl⟩
  obtain ⟨ZN, hZN⟩ : ∃ A, A = str (qt x.name) := ⟨_, rfl⟩
  obtain ⟨ZV, hZV⟩ : ∃ A, A = str x.val.pv := ⟨_, rfl⟩
  obtain ⟨L0, hL0⟩ : ∃ L : List ByteArray, L = [T, M] := ⟨_, rfl⟩
  obtain ⟨L1, hL1⟩ : ∃ L : List ByteArray, L = if fa = true then L0 ++ [ZA] else L0 := ⟨_, rfl⟩
  obtain ⟨L2, hL2⟩ : ∃ L : List ByteArray, L = if fb = true then L1 ++ [ZB] else L1 := ⟨_, rfl⟩
  obtain ⟨L3, hL3⟩ : ∃ L : List ByteArray, L = if fn = true then L2 ++ [ZN] else L2 := ⟨_, rfl⟩
  obtain ⟨L5, hL5⟩ : ∃ L : List ByteArray, L = if fv = true then L3 ++ [ZV] else L3 := ⟨_, rfl⟩
  have hjoin : Lib.join (L5.map (·.data.toList)) [32] = LN := by
    rw [← HWL.out, ← hfa, ← hfb, ← hfn, ← hfv, hL5, if_oW fv _ ZV _ hZV, hL3, if_oW fn _ ZN _ hZN, hL2, if_oW fb _ ZB _ hZB, hL1, if_oW fa _ ZA _ hZA, hL0, hT, hM]
    simp only [List.map_cons, List.map_nil, str_datE]
  have hlen : L0.length ≤ 2 ∧ L1.length ≤ 3 ∧ L2.length ≤ 4 ∧ L3.length ≤ 5 ∧ L5.length ≤ 6 ∧ 2 ≤ L5.length := by
    have q0 : L0.length = 2 := by rw [hL0]; rfl
    have q1 := if_len fa L0 ZA
    have q2 := if_len fb L1 ZB
    have q3 := if_len fn L2 ZN
    have q5 := if_len fv L3 ZV
    rw [← hL1] at q1
    rw [← hL2] at q2
    rw [← hL3] at q3
    rw [← hL5] at q5
    omega
  rw [← hfa] at HFA
  rw [← hfb] at HFB
  rw [← hfn] at HFN
  rw [← hfv] at HFV
  obtain ⟨t, ht⟩ : ∃ i, i = x.time := ⟨_, rfl⟩
  have K1 := Lib.hid (show ∀ W, Below w1.heap.size w1 W → W.cell? ⟨g, 1, none⟩ = some (.int .i64 t) from fun W h => by rw [ht]; exact (ROW.out W h).c1)
  have K3 := Lib.hid (show ∀ W, Below w1.heap.size w1 W → W.cell? ⟨g3, 0, none⟩ = some (.string M) from fun W h => by
    have := KF.out W h 0 (.string (str F.nm)) rfl
    rw [Addr.add_mid] at this
    rw [hM, ← FNM.out]; exact this)
  have CT := Lib.hid (show ∀ W, Below w1.heap.size w1 W → Calls Tryz.prog 87 #[.int .i64 t] W fun e w' => e = .returned (.string Bq) ∧ Below W.heap.size W w' from fun W h => by rw [ht, hBq]; exact DE.out x.time BD.out.time W h)
  have CA := Lib.hid (show ∀ W, Below w1.heap.size w1 W → Calls Tryz.prog 87 #[.int .i64 x.a] W fun e w' => e = .returned (.string ZA) ∧ Below W.heap.size W w' from fun W h => by rw [hZA]; exact DE.out x.a BD.out.a W h)
  have CBq := Lib.hid (show ∀ W, Below w1.heap.size w1 W → Calls Tryz.prog 87 #[.int .i64 x.b] W fun e w' => e = .returned (.string ZB) ∧ Below W.heap.size W w' from fun W h => by rw [hZB]; exact DE.out x.b BD.out.b W h)
  have CN := Lib.hid (show ∀ W, Below w1.heap.size w1 W → Calls Tryz.prog 88 #[.string (str x.name)] W fun e w' => e = .returned (.string ZN) ∧ Below W.heap.size W w' from fun W h => by rw [hZN]; exact QT.out x.name (by have := SZ.out; omega) W)
  have CV := Lib.hid (show ∀ W, Below w1.heap.size w1 W → Calls Tryz.prog 89 #[.agg x.val.cells.toArray] W fun e w' => e = .returned (.string ZV) ∧ Below W.heap.size W w' from fun W h => by rw [hZV]; exact VP.out W h)
  have hadd : (ByteArray.mk #[64]) ++ Bq = T := by rw [hBq, hT]; exact str_appE [64] (Lib.itoa x.time)
  have hbs : Bq.size ≤ 21 := by rw [hBq, str_sizeX]; exact itoa_len _ BD.out.time
  have HL0 := Lib.hid hL0
  have HL1 := Lib.hid hL1
  have HL2 := Lib.hid hL2
  have HL3 := Lib.hid hL3
  have HL5 := Lib.hid hL5
  have HJ := Lib.hid hjoin
  have HLEN := Lib.hid hlen
  have HADD := Lib.hid hadd
  have HBS := Lib.hid hbs
  clear hfa hfb hfn hfv hM hBq hT hZA hZB hZN hZV hL0 hL1 hL2 hL3 hL5 hjoin hlen ht hadd hbs DE QT VP
  refine wp_region_slotsG (by kernel_rfl) (by kernel_rfl)
    (fun y => ⟨#[.agg x.cells.toArray, .pointer (some ⟨g, 0, none⟩), .string ⟨#[]⟩, .pointer (some ⟨g3, 0, none⟩), y 7, .pointer (some ⟨g, 0, none⟩), .int .i64 k, .agg F.cells.toArray, y 0, y 1, y 2, y 3, y 4, y 5, y 6, undef, undef, undef, undef, undef, undef, undef, undef, undef, undef, undef, undef, undef, undef, undef, undef, undef, undef, undef, undef, undef, undef, undef, undef, undef, undef, undef, undef, undef, undef, undef, undef, undef, undef], []⟩)
    (fun j q W => match j with | 0 => q = .pointer (some ⟨g, 1, none⟩) | 1 => q = .int .i64 t | 2 => q = .string Bq | 3 => q = .string T | 4 => q = .pointer (some ⟨g3, 0, none⟩) | 5 => q = .string M | 6 => ∃ g8, q = .slice (some ⟨g8, 0, none⟩) 2 2 ∧ w1.heap.size ≤ g8 ∧ W.heap[g8]? = some (.cells #[.string T, .string M] 9 (0, 0)) | 7 => ∃ g8, q = .slice (some ⟨g8, 0, none⟩) 2 2 ∧ w1.heap.size ≤ g8 ∧ W.heap[g8]? = some (.cells #[.string T, .string M] 9 (0, 0)) | _ => True)
    (fun L W => Below w1.heap.size w1 W) (fun W W' => Below W.heap.size W W') ?_ ?_ ?_ (fun _ => undef) rfl (below_drewG (Below.refl _ _) 1)
  · intro j q W W' hr hf
    match j, hf with
    | 6, ⟨g8, h1, h2, h3⟩ => exact ⟨g8, h1, h2, (hr.block g8 (lt_of_rowW h3)).trans h3⟩
    | 7, ⟨g8, h1, h2, h3⟩ => exact ⟨g8, h1, h2, (hr.block g8 (lt_of_rowW h3)).trans h3⟩
    | 0, h => exact h
    | 1, h => exact h
    | 2, h => exact h
    | 3, h => exact h
    | 4, h => exact h
    | 5, h => exact h
    | k + 8, _ => trivial
  · intro i' o ho L y wx hd hi' hx hs
    match i', ho with
    | 0, ho =>
      obtain rfl := Option.some.inj ho
      exact .inl ⟨rfl, slot_run (v := .pointer (some ⟨g, 1, none⟩)) (w' := wx) rfl ⟨_, rfl, Below.refl _ _, rfl, hs⟩⟩
    | 1, ho =>
      obtain rfl := Option.some.inj ho
      refine .inl ⟨rfl, ?_⟩
      have y0 : y 0 = .pointer (some ⟨g, 1, none⟩) := hx 0 (hd ⟨0, .data⟩ (by simp) rfl)
      have hc := K1.out wx hs
      refine slot_run (v := .int .i64 t) (w' := wx) ?_ ⟨_, rfl, Below.refl _ _, rfl, hs⟩
      refine runWithK (fun z => match z with | .tmp 8 => y 0 | .const c => c | _ => undef) (by kernel_rfl) ?_
      rw [y0]
      go_simp
    | 2, ho =>
      obtain rfl := Option.some.inj ho
      refine .inl ⟨rfl, ?_⟩
      have y0 : y 1 = .int .i64 t := hx 1 (hd ⟨1, .data⟩ (by simp) rfl)
      refine slot_call #[.int .i64 t] rfl Tryz.func87 (by kernel_rfl) (by kernel_rfl) (by simp [Act.eval, y0]) ?_
      refine (CT.out wx hs).mono ?_
      rintro e w' ⟨rfl, hb⟩
      exact ⟨_, rfl, _, rfl, hb, rfl, hs.trans (hb.mono hs.size)⟩
    | 3, ho =>
      obtain rfl := Option.some.inj ho
      refine .inl ⟨rfl, ?_⟩
      have y0 : y 2 = .string Bq := hx 2 (hd ⟨2, .data⟩ (by simp) rfl)
      have hsz := HBS.out
      have hsz2 : ¬ maxLen < 1 + Bq.size := by unfold maxLen; omega
      refine slot_run (v := .string T) (w' := wx) ?_ ⟨_, rfl, Below.refl _ _, rfl, hs⟩
      refine runWithK (fun z => match z with | .tmp 10 => y 2 | .const c => c | _ => undef) (by kernel_rfl) ?_
      rw [y0, ← HADD.out]
      go_simp
      omega
    | 4, ho =>
      obtain rfl := Option.some.inj ho
      exact .inl ⟨rfl, slot_run (v := .pointer (some ⟨g3, 0, none⟩)) (w' := wx) rfl ⟨_, rfl, Below.refl _ _, rfl, hs⟩⟩
    | 5, ho =>
      obtain rfl := Option.some.inj ho
      refine .inl ⟨rfl, ?_⟩
      have y0 : y 4 = .pointer (some ⟨g3, 0, none⟩) := hx 4 (hd ⟨4, .data⟩ (by simp) rfl)
      have hc := K3.out wx hs
      refine slot_run (v := .string M) (w' := wx) ?_ ⟨_, rfl, Below.refl _ _, rfl, hs⟩
      refine runWithK (fun z => match z with | .tmp 12 => y 4 | .const c => c | _ => undef) (by kernel_rfl) ?_
      rw [y0]
      go_simp
    | 6, ho =>
      obtain rfl := Option.some.inj ho
      refine .inl ⟨rfl, ?_⟩
      have y1 : y 3 = .string T := hx 3 (hd ⟨3, .data⟩ (by simp) rfl)
      have y2 : y 5 = .string M := hx 5 (hd ⟨5, .data⟩ (by simp) rfl)
      have hb : Below wx.heap.size wx (wx.alloc (.cells #[.string T, .string M] 9)) := (Below.refl _ _).alloc (Nat.le_refl _) _
      refine slot_run (v := .slice (some ⟨wx.heap.size, 0, none⟩) 2 2) (w' := wx.alloc (.cells #[.string T, .string M] 9)) ?_ ⟨_, rfl, hb, ⟨_, rfl, hs.size, heap_alloc_new _ _⟩, hs.trans (hb.mono hs.size)⟩
      refine runWithK (fun z => match z with | .tmp 11 => y 3 | .tmp 13 => y 5 | .const c => c | _ => undef) (by kernel_rfl) ?_
      rw [y1, y2]
      go_simp
    | 7, ho =>
      obtain rfl := Option.some.inj ho
      refine .inl ⟨rfl, ?_⟩
      obtain ⟨g8, y0, h2, h3⟩ := hx 6 (hd ⟨6, .data⟩ (by simp) rfl)
      refine slot_run (v := .slice (some ⟨g8, 0, none⟩) 2 2) (w' := wx) ?_ ⟨_, rfl, Below.refl _ _, ⟨g8, rfl, h2, h3⟩, hs⟩
      refine runWithK (fun z => match z with | .tmp 14 => y 6 | .const c => c | _ => undef) (by kernel_rfl) ?_
      rw [y0]
      kernel_rfl
    | k + 8, ho => simp at ho
  · intro L y w3 hall hx hs
    obtain ⟨g8, y9, h2, h3⟩ := hx 7 (hall 7 (by decide))
    obtain ⟨sw, hsw⟩ : ∃ sw, sw = Value.slice (some ⟨g8, 0, none⟩) 2 2 := ⟨_, rfl⟩
    rw [y9, ← hsw]
    have C1 := Lib.hid (show WdS w1 L0 sw w3 from by
      rw [HL0.out, hsw]
      exact ⟨_, _, rfl, ⟨rfl, .inr ⟨g8, 2, _, rfl, h2, h3, Nat.le_refl _, by unfold maxLen; omega, rfl, rfl⟩⟩, hs⟩)
    clear hx hall y9 h2 h3 hs hsw
    have kf := Lib.hid (KF.out w3 (by obtain ⟨_, _, _, _, hb⟩ := C1.out; exact hb))
    go_upto_if 16 with (first | (with_reducible show wpList _ _ _ _ _ _; refine wpList_load_allW rfl 87 (.tmp 3) rfl ⟨g3,0,none⟩ rfl F.cells _ kf.out Tryz.underlying87 rfl (Tryz.shSize F) ?_) | (with_reducible refine (HFA.out _).mono ?_; rintro _ uA ⟨rfl, huA⟩))
    have DA := Lib.hid (WdS.beyond C1.out huA)
    clear kf huA C1
    go_cut [4] (fun s wx => WdS w1 L1 s wx)
    case first =>
      cases fa
      · have hl : L1 = L0 := HL1.out
        have RL := Lib.hid DA.out
        rw [← hl] at RL
        clear hl
        go_wp2_with fail
        go_meet
        all_goals exact RL.out
      · have hl : L1 = L0 ++ [ZA] := HL1.out
        obtain ⟨ao, cp, es, own, hb⟩ := DA.out
        have cc := (ROW.out uA hb).c2
        have CC := Lib.hid (CA.out uA hb)
        have HBc := Lib.hid hb
        have OWN := Lib.hid own
        have HLl := Lib.hid hl
        have hlim : L0.length + 1 ≤ 1000000 := by have := HLEN.out; omega
        have HLIM := Lib.hid hlim
        clear own hb hl hlim
        subst es
        go_wp2_with fail
        refine CC.out.mono ?_
        rintro e wy ⟨rfl, hby⟩
        have hb3 := HBc.out.trans (hby.mono HBc.out.size)
        have OW3 := Lib.hid (own_belowK OWN.out hby)
        have HB3 := Lib.hid hb3
        clear hby hb3
        go_wp2_with (with_reducible show wpList _ _ _ _ _ _; refine wpList_apStr rfl (.tmp 17) (.tmp 21) rfl w1.heap.size ao cp L0 L0.length rfl rfl OW3.out HB3.out.size ZA rfl HLIM.out ?_; intro a2 c2 wq own4 hb4 _)
        have RL := Lib.hid (WdS.end own4 (HB3.out.trans hb4) HLl.out)
        clear own4 hb4
        go_wp2_with fail
        go_meet
        all_goals exact RL.out
    case rest =>
      obtain ⟨vA, rfl⟩ : ∃ wd : World, wd = wc := ⟨_, rfl⟩
      have SA := Lib.hid hcut
      clear hcut DA
      have kf := Lib.hid (KF.out vA (by obtain ⟨_, _, _, _, hb⟩ := SA.out; exact hb))
      go_upto_if 24 with (first | (with_reducible show wpList _ _ _ _ _ _; refine wpList_load_allW rfl 87 (.tmp 3) rfl ⟨g3,0,none⟩ rfl F.cells _ kf.out Tryz.underlying87 rfl (Tryz.shSize F) ?_) | (with_reducible refine (HFB.out _).mono ?_; rintro _ uB ⟨rfl, huB⟩))
      have DB := Lib.hid (WdS.beyond SA.out huB)
      clear kf huB SA
      go_cut [4] (fun s wx => WdS w1 L2 s wx)
      case first =>
        cases fb
        · have hl : L2 = L1 := HL2.out
          have RL := Lib.hid DB.out
          rw [← hl] at RL
          clear hl
          go_wp2_with fail
          go_meet
          all_goals exact RL.out
        · have hl : L2 = L1 ++ [ZB] := HL2.out
          obtain ⟨ao, cp, es, own, hb⟩ := DB.out
          have cc := (ROW.out uB hb).c3
          have CC := Lib.hid (CBq.out uB hb)
          have HBc := Lib.hid hb
          have OWN := Lib.hid own
          have HLl := Lib.hid hl
          have hlim : L1.length + 1 ≤ 1000000 := by have := HLEN.out; omega
          have HLIM := Lib.hid hlim
          clear own hb hl hlim
          subst es
          go_wp2_with fail
          refine CC.out.mono ?_
          rintro e wy ⟨rfl, hby⟩
          have hb3 := HBc.out.trans (hby.mono HBc.out.size)
          have OW3 := Lib.hid (own_belowK OWN.out hby)
          have HB3 := Lib.hid hb3
          clear hby hb3
          go_wp2_with (with_reducible show wpList _ _ _ _ _ _; refine wpList_apStr rfl (.tmp 25) (.tmp 29) rfl w1.heap.size ao cp L1 L1.length rfl rfl OW3.out HB3.out.size ZB rfl HLIM.out ?_; intro a2 c2 wq own4 hb4 _)
          have RL := Lib.hid (WdS.end own4 (HB3.out.trans hb4) HLl.out)
          clear own4 hb4
          go_wp2_with fail
          go_meet
          all_goals exact RL.out
      case rest =>
        obtain ⟨vB, rfl⟩ : ∃ wd : World, wd = wc := ⟨_, rfl⟩
        have SB := Lib.hid hcut
        clear hcut DB
        have kf := Lib.hid (KF.out vB (by obtain ⟨_, _, _, _, hb⟩ := SB.out; exact hb))
        go_upto_if 32 with (first | (with_reducible show wpList _ _ _ _ _ _; refine wpList_load_allW rfl 87 (.tmp 3) rfl ⟨g3,0,none⟩ rfl F.cells _ kf.out Tryz.underlying87 rfl (Tryz.shSize F) ?_) | (with_reducible refine (HFN.out _).mono ?_; rintro _ uN ⟨rfl, huN⟩))
        have DN := Lib.hid (WdS.beyond SB.out huN)
        clear kf huN SB
        go_cut [4] (fun s wx => WdS w1 L3 s wx)
        case first =>
          cases fn
          · have hl : L3 = L2 := HL3.out
            have RL := Lib.hid DN.out
            rw [← hl] at RL
            clear hl
            go_wp2_with fail
            go_meet
            all_goals exact RL.out
          · have hl : L3 = L2 ++ [ZN] := HL3.out
            obtain ⟨ao, cp, es, own, hb⟩ := DN.out
            have cc := (ROW.out uN hb).c4
            have CC := Lib.hid (CN.out uN hb)
            have HBc := Lib.hid hb
            have OWN := Lib.hid own
            have HLl := Lib.hid hl
            have hlim : L2.length + 1 ≤ 1000000 := by have := HLEN.out; omega
            have HLIM := Lib.hid hlim
            clear own hb hl hlim
            subst es
            go_wp2_with fail
            refine CC.out.mono ?_
            rintro e wy ⟨rfl, hby⟩
            have hb3 := HBc.out.trans (hby.mono HBc.out.size)
            have OW3 := Lib.hid (own_belowK OWN.out hby)
            have HB3 := Lib.hid hb3
            clear hby hb3
            go_wp2_with (with_reducible show wpList _ _ _ _ _ _; refine wpList_apStr rfl (.tmp 33) (.tmp 37) rfl w1.heap.size ao cp L2 L2.length rfl rfl OW3.out HB3.out.size ZN rfl HLIM.out ?_; intro a2 c2 wq own4 hb4 _)
            have RL := Lib.hid (WdS.end own4 (HB3.out.trans hb4) HLl.out)
            clear own4 hb4
            go_wp2_with fail
            go_meet
            all_goals exact RL.out
        case rest =>
          obtain ⟨vN, rfl⟩ : ∃ wd : World, wd = wc := ⟨_, rfl⟩
          have SN := Lib.hid hcut
          clear hcut DN
          have kf := Lib.hid (KF.out vN (by obtain ⟨_, _, _, _, hb⟩ := SN.out; exact hb))
          go_upto_if 40 with (first | (with_reducible show wpList _ _ _ _ _ _; refine wpList_load_allW rfl 87 (.tmp 3) rfl ⟨g3,0,none⟩ rfl F.cells _ kf.out Tryz.underlying87 rfl (Tryz.shSize F) ?_) | (with_reducible refine (HFV.out _).mono ?_; rintro _ uV ⟨rfl, huV⟩))
          have DV := Lib.hid (WdS.beyond SN.out huV)
          clear kf huV SN
          go_cut [4] (fun s wx => WdS w1 L5 s wx)
          case first =>
            cases fv
            · have hl : L5 = L3 := HL5.out
              have RL := Lib.hid DV.out
              rw [← hl] at RL
              clear hl
              go_wp2_with fail
              go_meet
              all_goals exact RL.out
            · have hl : L5 = L3 ++ [ZV] := HL5.out
              obtain ⟨ao, cp, es, own, hb⟩ := DV.out
              have cch := Lib.hid (ROW.out uV hb).cv
              have CC := Lib.hid (CV.out uV hb)
              have HBc := Lib.hid hb
              have OWN := Lib.hid own
              have HLl := Lib.hid hl
              have hlim : L3.length + 1 ≤ 1000000 := by have := HLEN.out; omega
              have HLIM := Lib.hid hlim
              clear own hb hl hlim
              subst es
              go_wp2_with (with_reducible show wpList _ _ _ _ _ _; refine wpList_load_allW rfl 26 (.tmp 42) rfl ⟨g,5,none⟩ rfl x.val.cells _ cch.out Tryz.underlying26 rfl (Tryz.valSize x.val) ?_)
              refine CC.out.mono ?_
              rintro e wy ⟨rfl, hby⟩
              have hb3 := HBc.out.trans (hby.mono HBc.out.size)
              have OW3 := Lib.hid (own_belowK OWN.out hby)
              have HB3 := Lib.hid hb3
              clear hby hb3
              go_wp2_with (with_reducible show wpList _ _ _ _ _ _; refine wpList_apStr rfl (.tmp 41) (.tmp 45) rfl w1.heap.size ao cp L3 L3.length rfl rfl OW3.out HB3.out.size ZV rfl HLIM.out ?_; intro a2 c2 wq own4 hb4 _)
              have RL := Lib.hid (WdS.end own4 (HB3.out.trans hb4) HLl.out)
              clear own4 hb4
              go_wp2_with fail
              go_meet
              all_goals exact RL.out
          case rest =>
            obtain ⟨vV, rfl⟩ : ∃ wd : World, wd = wc := ⟨_, rfl⟩
            have SV := Lib.hid hcut
            clear hcut DV
            obtain ⟨ao, cp, es, own, hb⟩ := SV.out
            subst es
            have hl := HLEN.out
            obtain ⟨gw, cq, egw, hgw, hrow, hcap⟩ : ∃ gw cq, (Value.slice ao L5.length cp) = .slice (some ⟨gw, 0, none⟩) L5.length cq ∧ gw < vV.heap.size ∧ (∀ (j : Nat) s, L5[j]? = some s → vV.cell? ⟨gw, 0 + j, none⟩ = some (.string s)) ∧ L5.length ≤ cq := by
              rcases own.2 with ⟨_, e0⟩ | ⟨gw, cap, cur, e1, hB, hh, h1, h2, h3, h4⟩
              · omega
              · refine ⟨gw, cap, e1, lt_of_rowW hh, fun j s hj => ?_, h1⟩
                rw [Nat.zero_add, cell_of_rowW vV gw j _ _ _ hh]
                have hq : (svs L5)[j]? = some (.string s) := by simp [svs, hj]
                rw [← h4] at hq
                rw [List.getElem?_take] at hq
                split at hq
                · simpa using hq
                · cases hq
            injection egw with e1 e2 e3
            subst e1 e3
            have JN := Lib.hid (Tryz.strings_Join gw 0 cp L5 ⟨#[32]⟩ vV hrow hgw (by omega) hcap (by rw [show (⟨#[32]⟩ : ByteArray).data.toList = [32] from rfl, HJ.out]; have := HLN.out; omega))
            rw [show (⟨#[32]⟩ : ByteArray).data.toList = [32] from rfl, HJ.out, show (⟨LN.toArray⟩ : ByteArray) = str LN from rfl, ← HSL.out] at JN
            have HB := Lib.hid (BW.out.trans (hb.mono BW.out.size))
            clear hrow hgw hcap hb own hl
            go_wp2_with fail
            refine JN.out.mono ?_
            rintro e wj ⟨rfl, hbj⟩
            have RL := Lib.hid (HB.out.trans (hbj.mono HB.out.size))
            clear hbj
            go_wp2_with fail
            go_ret
            exact ⟨rfl, RL.out⟩
end Go.Proofs.YtnfobnnbeefeeaaGreatDoor.Wi
/- Made. -/
namespace Go.Proofs.YtnfobnnbeefeeaaGreatDoor.Wi
open Go Go.RowKit
set_option linter.unusedVariables false
set_option linter.unusedSimpArgs false
def cmEvs : List Int := [11, 13, 7, 16, 17, 21]
theorem shN_ev (i : Nat) : (shN i).ev = cmEvs.getD i 0 := rfl
theorem eMd_any (k : Int) (h : ∀ i, i < 6 → cmEvs.getD i 0 ≠ k) : eMd k = false := by
  have h0 := h 0 (by omega); have h1 := h 1 (by omega); have h2 := h 2 (by omega); have h3 := h 3 (by omega); have h4 := h 4 (by omega); have h5 := h 5 (by omega)
  simp only [cmEvs, List.getD_cons_zero, List.getD_cons_succ] at h0 h1 h2 h3 h4 h5
  unfold eMd
  simp
  omega
theorem eMd_of (i : Nat) (hi : i < 6) : eMd (cmEvs.getD i 0) = true := by
  have : ∀ j : Fin 6, eMd (cmEvs.getD j.val 0) = true := by decide
  exact this ⟨i, hi⟩
def mdRel (w : World) (k : Int) (i : Value) (wr : World) : Prop := ∃ (j n : Nat), i = .int .i64 (j : Int) ∧ j ≤ 6 ∧ (∀ i, i < j → cmEvs.getD i 0 ≠ k) ∧ wr = w.drewN n
set_option maxHeartbeats 8000000 in
set_option maxRecDepth 100000 in
theorem cmade_any (x : Ev) (w : World) (he : CB w.heap.size w) : Calls Tryz.prog 34 #[.agg x.cells.toArray] w fun e w' => e = .returned (.bool (eMd x.kind)) ∧ Below w.heap.size w w' := by
  obtain ⟨w1, hw1⟩ : ∃ bx, bx = w.alloc (.cells x.cells.toArray 28) := ⟨_, rfl⟩
  obtain ⟨g, hg⟩ : ∃ bx, bx = w.heap.size := ⟨_, rfl⟩
  have bw1 : Below w.heap.size w w1 := by rw [hw1]; exact (Below.refl _ _).alloc (Nat.le_refl _) _
  have nw1 : w1.heap[g]? = some (.cells x.cells.toArray 28 (0, 0)) := by rw [hw1, hg]; exact heap_alloc_new _ _
  have Kw1 := Lib.hid (rowE nw1)
  have Cw1 := Lib.hid (evC nw1)
  have Hw1 := Lib.hid hw1
  have Hg := Lib.hid hg
  have Bw1 := Lib.hid bw1
  have Nw1 := Lib.hid nw1
  clear hw1 hg bw1 nw1
  have HE := Lib.hid ((he.on Bw1.out).base Bw1.out.size)
  have TB := Lib.hid (fun (n j : Nat) (hj : j < 6) => show (w1.drewN n).cell? ⟨0, j * 3 + 2, none⟩ = some (.int .i64 (cmEvs.getD j 0)) from HE.out.sh j hj 2 _ rfl)
  have C2 := Lib.hid (fun (n : Nat) => show (w1.drewN n).cell? ⟨g, 2, none⟩ = some (.int .i64 x.kind) from Cw1.out.c2)
  obtain ⟨k, hk⟩ : ∃ k, k = x.kind := ⟨_, rfl⟩
  rw [← hk] at C2 ⊢
  obtain ⟨R, hR⟩ : ∃ R, R = eMd k := ⟨_, rfl⟩
  rw [← hR]
  have HR := Lib.hid hR
  have R0 := Lib.hid (show mdRel w1 k (.int .i64 0) w1 from ⟨0, 0, rfl, by omega, (fun i h => by omega), rfl⟩)
  clear hk hR he
  go_enter Tryz.func34, Tryz.ntmps34
  go_upto_region 1 with fail
  rw [← Hw1.out, ← Hg.out]
  go_wp2_with fail
  go_loopw [4] (fun i wr => mdRel w1 k i wr) (fun i _ => (7 - intOf i).toNat)
  case atStart => exact R0.out
  case round =>
    obtain ⟨j, n, rfl, hj, hne, rfl⟩ := hrel
    have q0 : (0 : Int) ≤ (j : Int) := by omega
    have HNE := Lib.hid hne
    clear hne R0
    by_cases hjl : j < 6
    · have q2 : (j : Int) < 6 := by omega
      have tb := TB.out n j hjl
      have c2 := C2.out n
      obtain ⟨ev, hev⟩ : ∃ ev, ev = cmEvs.getD j 0 := ⟨_, rfl⟩
      rw [← hev] at tb
      have HEV := Lib.hid hev
      clear hev
      obtain ⟨wp, hwp⟩ : ∃ wp, wp = w1.drewN n := ⟨_, rfl⟩
      rw [← hwp] at tb c2 ⊢
      have HWP := Lib.hid hwp
      clear hwp
      go_upto_region 4 with fail
      go_quiet (fail)
      obtain ⟨wn, hwn⟩ : ∃ wn, wn = wp.drewN nq := ⟨_, rfl⟩
      rw [← hwn]
      obtain ⟨n2, hn2⟩ := drewN_add' w1 n nq
      rw [HWP.out, hn2] at hwn
      by_cases hek : ev = k
      · subst hek
        obtain rfl : R = true := by rw [HR.out, HEV.out]; exact eMd_of j hjl
        go_wp2_with fail
        go_ret
        exact ⟨rfl, by rw [hwn]; exact below_drewG Bw1.out n2⟩
      · have h2 : (ev == k) = false := by simpa using hek
        have RL := Lib.hid (show mdRel w1 k (.int .i64 ((j + 1 : Nat) : Int)) wn from ⟨j + 1, n2, rfl, hjl, (fun i hi => by
          rcases Nat.lt_or_ge i j with h | h
          · exact HNE.out i h
          · obtain rfl : i = j := by omega
            rw [← HEV.out]; exact hek), hwn⟩)
        clear hwn hn2
        go_wp2_with fail
        exact ⟨RL.out, by simp [intOf]; omega⟩
    · have q2 : ¬ (j : Int) < 6 := by omega
      obtain rfl : R = false := by rw [HR.out]; exact eMd_any k (fun i hi => HNE.out i (by omega))
      go_wp2_with fail
      go_ret
      exact ⟨rfl, below_drewG Bw1.out n⟩
end Go.Proofs.YtnfobnnbeefeeaaGreatDoor.Wi
