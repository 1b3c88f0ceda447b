/- The walk of ValueChecks. -/
import Derived.Test.YthfjahagmfgfeaaGreatDoorH4
import Derived.Test.YthfjahagmfgfeaaGreatDoorG2
import Derived.Test.YthfjahagmfgfeaaGreatDoorGA
namespace Go.Proofs.YthfjahagmfgfeaaGreatDoor.Wi
open Go Go.RowKit
set_option linter.unusedVariables false
set_option linter.unusedSimpArgs false
def gdV (v : Value) (want : Bool) : Bool := (match v with | .bool b => some b | _ => none) == some want
theorem rcmp_zero {a b : VT} (ha : a.Kin) (h : a.nz = b.nz) : a.rcmp b = 0 := (rcmp_sg a b).2.2 ((cmp_zero a ha b).2 h)
set_option maxHeartbeats 16000000 in
set_option maxRecDepth 100000 in
theorem checks_any (v : VT) (w : World) (hv : v.At w.heap.size w) (hg : GB w.heap.size w) : Calls Tryz.prog 3 #[.agg v.cells.toArray] w fun e w' => e = .returned (.bool true) ∧ Below w.heap.size w w' := by
  obtain ⟨w1, hw1⟩ : ∃ bx, bx = w.alloc (.cells v.cells.toArray 24) := ⟨_, rfl⟩
  obtain ⟨g, hg⟩ : ∃ bx, bx = w.heap.size := ⟨_, rfl⟩
  have bw1 : Below w.heap.size w w1 := by rw [hw1]; exact (Below.refl _ _).alloc (Nat.le_refl _) _
  have nw1 : w1.heap[g]? = some (.cells v.cells.toArray 24 (0, 0)) := by rw [hw1, hg]; exact heap_alloc_new _ _
  have Kw1 := Lib.hid (rowK nw1)
  have Hw1 := Lib.hid hw1
  have Hg := Lib.hid hg
  have Bw1 := Lib.hid bw1
  have Nw1 := Lib.hid nw1
  clear hw1 hg bw1 nw1
  have HV := Lib.hid ((hv.below Bw1.out).mono Bw1.out.size)
  have G := Lib.hid ((hg.on Bw1.out).base Bw1.out.size)
  have CH := Lib.hid (holds_any w1 G.out)
  clear hv hg
  go_enter Tryz.func3, Tryz.ntmps3
  go_upto_region 1 with fail
  rw [← Hw1.out, ← Hg.out]
  go_wp2_with fail
  refine CH.out.mono ?_
  rintro e w2 ⟨rfl, hb2⟩
  have Kw2 := Lib.hid (rowB (v := v) Nw1.out hb2)
  have hl4 := v.cells_len
  have CF := Lib.hid (fits_one ((HV.out.below hb2).mono hb2.size))
  go_wp2_with (first | (with_reducible show wpList _ _ _ _ _ _; refine wpList_load_allW rfl 24 (.tmp 1) rfl ⟨g,0,none⟩ rfl v.cells _ Kw2.out Tryz.underlying24 rfl (Tryz.valSize v) ?_))
  clear hl4
  rw [bs1]
  refine CF.out.mono ?_
  rintro e w3 ⟨⟨b, rfl⟩, hb3⟩
  have hb13 := hb2.trans (hb3.mono hb2.size)
  have RL3 := Lib.hid (Bw1.out.trans (hb13.mono Bw1.out.size))
  cases b
  · clear hb2 hb3 hb13
    go_wp2_with fail
    go_ret
    exact ⟨rfl, RL3.out⟩
  have Kw3 := Lib.hid (rowB (v := v) Nw1.out hb13)
  obtain ⟨E, hE⟩ : ∃ E, E = v.vE := ⟨_, rfl⟩
  obtain ⟨pc, hpc⟩ : ∃ pc, pc = (v.chk 0 0).2 := ⟨_, rfl⟩
  have CK := rcheck_any v w1.heap.size w3 (HV.out.below hb13) hb13.size
  unfold TwoI at CK
  rw [← hE, ← hpc] at CK
  have HCK := Lib.hid CK
  have HB13 := Lib.hid hb13
  have HE := Lib.hid hE
  have HPC := Lib.hid hpc
  clear CK hE hpc hb2 hb3 hb13
  go_wp2_with (first | (with_reducible show wpList _ _ _ _ _ _; refine wpList_load_allW rfl 24 (.tmp 1) rfl ⟨g,0,none⟩ rfl v.cells _ Kw3.out Tryz.underlying24 rfl (Tryz.valSize v) ?_))
  refine HCK.out.mono ?_
  rintro e w4 ⟨rfl, hb4⟩
  have HB14 := Lib.hid (HB13.out.trans (hb4.mono HB13.out.size))
  have Kw4 := Lib.hid (rowB (v := v) Nw1.out HB14.out)
  have CE := vencode_any v w1.heap.size w4 (HV.out.below HB14.out) HB14.out.size
  have HCE := Lib.hid CE
  clear CE hb4 HCK
  go_wp2_with (first | (with_reducible show wpList _ _ _ _ _ _; refine wpList_load_allW rfl 24 (.tmp 1) rfl ⟨g,0,none⟩ rfl v.cells _ Kw4.out Tryz.underlying24 rfl (Tryz.valSize v) ?_))
  refine HCE.out.mono ?_
  rintro e w5 ⟨hb5, hP⟩
  have HB15 := Lib.hid (HB14.out.trans (hb5.mono HB14.out.size))
  have Kw5 := Lib.hid (rowB (v := v) Nw1.out HB15.out)
  have CC := vcheck_any v w1.heap.size w5 (HV.out.below HB15.out) HB15.out.size
  rw [← HE.out] at CC hP
  have HCC := Lib.hid CC
  have RL5 := Lib.hid (Bw1.out.trans (HB15.out.mono Bw1.out.size))
  clear CC hb5 HCE
  by_cases he : E = 0
  · rw [if_pos he] at hP
    obtain ⟨ao5, c5, rfl, own5⟩ := hP
    subst he
    have HVE := Lib.hid (show v.vE = 0 from HE.out.symm)
    have HF := Lib.hid (fine HVE.out)
    obtain ⟨n, hn⟩ : ∃ n, n = v.vb.length := ⟨_, rfl⟩
    rw [← hn] at own5 ⊢
    have HN := Lib.hid hn
    have OWN := Lib.hid own5
    clear own5 hn
    go_wp2_with (first | (with_reducible show wpList _ _ _ _ _ _; refine wpList_load_allW rfl 24 (.tmp 1) rfl ⟨g,0,none⟩ rfl v.cells _ Kw5.out Tryz.underlying24 rfl (Tryz.valSize v) ?_))
    refine HCC.out.mono ?_
    rintro e w6 ⟨rfl, hb6⟩
    have HB56 := Lib.hid hb6
    have HB16 := Lib.hid (HB15.out.trans (hb6.mono HB15.out.size))
    have hS6 := (own_Sl OWN.out HN.out.symm).below hb6
    have CD := vdecode_any hS6 (by have := HF.out.vb; omega)
    rw [dcV_fwd HV.out.num HVE.out, ← HN.out] at CD
    have HCD := Lib.hid CD
    clear hb6 hS6 CD HCC
    go_wp2_with fail
    refine HCD.out.mono ?_
    rintro e w7 ⟨U, rfl, hUz, hUa, _, hb7⟩
    obtain ⟨w8, hw8⟩ : ∃ bx, bx = w7.alloc (.cells U.cells.toArray 24) := ⟨_, rfl⟩
    obtain ⟨g8, hg8⟩ : ∃ bx, bx = w7.heap.size := ⟨_, rfl⟩
    have bw8 : Below w7.heap.size w7 w8 := by rw [hw8]; exact (Below.refl _ _).alloc (Nat.le_refl _) _
    have nw8 : w8.heap[g8]? = some (.cells U.cells.toArray 24 (0, 0)) := by rw [hw8, hg8]; exact heap_alloc_new _ _
    have Kw8 := Lib.hid (rowK nw8)
    have Hw8 := Lib.hid hw8
    have Hg8 := Lib.hid hg8
    have Bw8 := Lib.hid bw8
    have Nw8 := Lib.hid nw8
    clear hw8 hg8 bw8 nw8
    have hUz' : U.nz = v.nz := hUz
    have HB18 := Lib.hid (HB16.out.trans ((hb7.trans (Bw8.out.mono hb7.size)).mono HB16.out.size))
    have HB58 := Lib.hid (HB56.out.trans ((hb7.trans (Bw8.out.mono hb7.size)).mono HB56.out.size))
    have HUA := Lib.hid (fun (W : World) (h : Below w8.heap.size w8 W) => (hUa.below (Bw8.out.trans (h.mono Bw8.out.size))).mono Bw8.out.size)
    have HVA := Lib.hid (fun (W : World) (h : Below w8.heap.size w8 W) => ((HV.out.below (HB18.out.trans (h.mono HB18.out.size))).mono HB18.out.size))
    have KV := Lib.hid (fun (W : World) (h : Below w8.heap.size w8 W) => rowB (v := v) Nw1.out (HB18.out.trans (h.mono HB18.out.size)))
    have KU := Lib.hid (fun (W : World) (h : Below w8.heap.size w8 W) => rowB (v := U) Nw8.out h)
    have RLF := Lib.hid (fun (W : World) (h : Below w8.heap.size w8 W) => (Bw1.out.trans (HB18.out.mono Bw1.out.size)).trans (h.mono (Nat.le_trans Bw1.out.size HB18.out.size)))
    obtain ⟨SB, hSB⟩ : ∃ SB, SB = str v.vb := ⟨_, rfl⟩
    have CV := Lib.hid (fun (W : World) (h : Below w8.heap.size w8 W) => show (convert 29 9 (.slice ao5 n c5)).run Tryz.prog W = .ok (.string SB) W from by
      rw [hSB]; exact own_conv (own_belowK OWN.out (HB58.out.trans (h.mono HB58.out.size))) HN.out.symm)
    have CB := Lib.hid (fun (W : World) (h : Below w8.heap.size w8 W) => show Calls Tryz.prog 18 #[.agg v.cells.toArray] W fun e w' => e = .returned (.string SB) ∧ Below W.heap.size W w' from by
      rw [hSB]; exact rbytes_any v w8.heap.size W (HVA.out W h) HF.out.kin (by have := HF.out.vb; omega) h.size)
    have hcu : U.cmp v = 0 := by rw [← nz_cmpL U, hUz', nz_cmpL]; exact cmp_self v HF.out.kin
    have hku : U.Kin := by rw [← nz_kin, hUz', nz_kin]; exact HF.out.kin
    have hru : U.rcmp v = 0 := rcmp_zero hku hUz'
    have CS := Lib.hid (fun (W : World) (h : Below w8.heap.size w8 W) => show Calls Tryz.prog 19 #[.agg U.cells.toArray, .agg v.cells.toArray] W fun e w' => e = .returned (.bool true) ∧ Below W.heap.size W w' from by
      have h1 := vsame_any U v (by rw [← nz_dpr, hUz', nz_dpr]; exact HF.out.dpr) w8.heap.size W (HUA.out W h) (HVA.out W h) h.size
      rw [hcu] at h1
      exact h1)
    have CR := Lib.hid (fun (W : World) (h : Below w8.heap.size w8 W) => show Calls Tryz.prog 20 #[.agg U.cells.toArray, .agg v.cells.toArray] W fun e w' => e = .returned (.int .i64 0) ∧ Below W.heap.size W w' from by
      have h1 := rcompare_any U v w8.heap.size W hku HF.out.kin (HUA.out W h) (HVA.out W h) h.size
      rw [hru] at h1
      exact h1)
    have CP := Lib.hid (fun (W : World) (h : Below w8.heap.size w8 W) => show Calls Tryz.prog 21 #[.agg v.cells.toArray] W fun e w' => e = .returned (.int .i64 (pc : Int)) ∧ Below W.heap.size W w' from by
      have h1 := vparts_any v HF.out.dpr (by have := HF.out.pts2; omega) w8.heap.size W (HVA.out W h) h.size
      rw [HF.out.pts, ← HPC.out] at h1
      exact h1)
    have CL := Lib.hid (fun (W : World) (h : Below w8.heap.size w8 W) => show Calls Tryz.prog 22 #[.agg v.cells.toArray] W fun e w' => (∃ C : VT, e = .returned (.agg C.cells.toArray) ∧ C.nz = v.nz ∧ C.At w'.heap.size w') ∧ Below W.heap.size W w' from by
      refine (vclone_any v HF.out.dpr w8.heap.size W (HVA.out W h) h.size).mono ?_
      rintro e w' ⟨ao, c, Y, rfl, hC, hb⟩
      exact ⟨⟨_, rfl, cln_nz hC, cln_at hC (HVA.out W h)⟩, hb⟩)
    have CT := Lib.hid (fun (W : World) (h : Below w8.heap.size w8 W) (C : VT) (hz : C.nz = v.nz) (ha : C.At W.heap.size W) => show Calls Tryz.prog 19 #[.agg C.cells.toArray, .agg v.cells.toArray] W fun e w' => e = .returned (.bool true) ∧ Below W.heap.size W w' from by
      have h1 := vsame_any C v (by rw [← nz_dpr, hz, nz_dpr]; exact HF.out.dpr) W.heap.size W ha ((HVA.out W h).mono h.size) (Nat.le_refl _)
      have hc : C.cmp v = 0 := by rw [← nz_cmpL C, hz, nz_cmpL]; exact cmp_self v HF.out.kin
      rw [hc] at h1
      exact h1)
    have SZ := Lib.hid Tryz.valSize
    clear hUz hUz' hUa hb7 hSB hcu hku hru HCD OWN HN HVE HF HV HB13 HB14 HB15 HB16 HB56 HB18 HB58
    go_upto_region 12 with (first
      | (with_reducible show wpList _ _ _ _ _ _; refine wpList_store_newW rfl 24 (.tmp 7) (.tmp 42) rfl 24 _ U.cells.toArray rfl rfl (Tryz.valSize' U) (by with_unfolding_all exact VT.four U) U.cells_one ?_; rw [← Hw8.out, ← Hg8.out]))
    refine wp_region_slotsG (by kernel_rfl) (by kernel_rfl)
      (fun y => ⟨#[Value.agg v.cells.toArray, Value.pointer (some { block := g, off := 0 }), y 32, Value.int IntKind.i64 0, Value.int IntKind.i64 ↑pc, Value.slice ao5 n c5, Value.int IntKind.i64 0, Value.pointer (some { block := g8, off := 0 }), Value.int IntKind.i64 0, Value.bool true, Value.bool false, Value.agg v.cells.toArray, Value.slice (some { block := w2.heap.size, off := 0 }) 1 1, Value.bool true, Value.bool false, Value.tuple #[Value.int IntKind.i64 0, Value.int IntKind.i64 ↑pc], Value.agg v.cells.toArray, Value.tuple #[Value.int IntKind.i64 0, Value.int IntKind.i64 ↑pc], Value.int IntKind.i64 0, Value.int IntKind.i64 ↑pc, Value.tuple #[Value.slice ao5 n c5, Value.int IntKind.i64 0], Value.agg v.cells.toArray, Value.tuple #[Value.slice ao5 n c5, Value.int IntKind.i64 0], Value.slice ao5 n c5, Value.int IntKind.i64 0, Value.agg v.cells.toArray, Value.int IntKind.i64 0, Value.int IntKind.i64 0, Value.bool false, Value.bool false, Value.int IntKind.i64 0, Value.int IntKind.i64 0, Value.bool false, Value.bool false, Value.int IntKind.i64 0, Value.bool false, undef, undef, undef, Value.tuple #[Value.agg U.cells.toArray, Value.int IntKind.i64 0], Value.slice ao5 n c5, Value.tuple #[Value.agg U.cells.toArray, Value.int IntKind.i64 0], Value.agg U.cells.toArray, Value.int IntKind.i64 0, y 0, y 1, y 2, y 3, y 4, y 5, y 6, y 7, y 8, y 9, y 10, y 11, y 12, y 13, y 14, y 15, y 16, y 17, y 18, y 19, y 20, y 21, y 22, y 23, y 24, y 25, y 26, y 27, y 28, y 29, y 30, y 31], []⟩)
      (fun j q W => match j with | 0 => q = .slice ao5 n c5 | 1 => q = .string SB | 2 => q = .agg v.cells.toArray | 3 => q = .string SB | 4 => q = .bool true | 5 => q = .bool true | 6 => q = .int .i64 0 | 7 => q = .bool true | 8 => q = .bool true | 9 => q = .bool true | 10 => q = .agg U.cells.toArray | 11 => q = .agg v.cells.toArray | 12 => q = .bool true | 13 => q = .bool true | 14 => q = .bool true | 15 => q = .agg U.cells.toArray | 16 => q = .agg v.cells.toArray | 17 => q = .int .i64 0 | 18 => q = .bool true | 19 => q = .bool true | 20 => q = .bool true | 21 => q = .agg v.cells.toArray | 22 => q = .int .i64 (pc : Int) | 23 => q = .int .i64 (pc : Int) | 24 => q = .bool true | 25 => q = .bool true | 26 => q = .bool true | 27 => q = .agg v.cells.toArray | 28 => ∃ C : VT, q = .agg C.cells.toArray ∧ C.nz = v.nz ∧ C.At W.heap.size W | 29 => q = .agg v.cells.toArray | 30 => q = .bool true | 31 => q = .bool true | 32 => q = .bool true | _ => True)
      (fun L W => Below w8.heap.size w8 W) (fun W W' => Below W.heap.size W W') ?_ ?_ ?_ (fun j => match j with | 0 => undef | 1 => undef | 2 => undef | 3 => undef | 4 => undef | 5 => undef | 6 => undef | 7 => undef | 8 => undef | 9 => undef | 10 => undef | 11 => undef | 12 => undef | 13 => undef | 14 => undef | 15 => undef | 16 => undef | 17 => undef | 18 => undef | 19 => undef | 20 => undef | 21 => undef | 22 => undef | 23 => undef | 24 => undef | 25 => undef | 26 => undef | 27 => undef | 28 => undef | 29 => undef | 30 => undef | 31 => undef | 32 => Value.bool false | _ => undef) rfl (below_drewG (Below.refl _ _) 1)
    · intro j q W W' hr hf
      match j, hf with
      | 28, ⟨C, h1, h2, h3⟩ => exact ⟨C, h1, h2, (h3.below hr).mono hr.size⟩
      | 0, h => exact h
      | 1, h => exact h
      | 2, h => exact h
      | 3, h => exact h
      | 4, h => exact h
      | 5, h => exact h
      | 6, h => exact h
      | 7, h => exact h
      | 8, h => exact h
      | 9, h => exact h
      | 10, h => exact h
      | 11, h => exact h
      | 12, h => exact h
      | 13, h => exact h
      | 14, h => exact h
      | 15, h => exact h
      | 16, h => exact h
      | 17, h => exact h
      | 18, h => exact h
      | 19, h => exact h
      | 20, h => exact h
      | 21, h => exact h
      | 22, h => exact h
      | 23, h => exact h
      | 24, h => exact h
      | 25, h => exact h
      | 26, h => exact h
      | 27, h => exact h
      | 29, h => exact h
      | 30, h => exact h
      | 31, h => exact h
      | 32, h => exact h
      | k + 33, _ => trivial
    · intro i' o ho L y wx hd hi' hx hs
      match i', ho with
      | 0, ho =>
        obtain rfl := Option.some.inj ho
        refine .inl ⟨rfl, ?_⟩
        exact slot_run (v := .slice ao5 n c5) (w' := wx) rfl ⟨_, rfl, Below.refl _ _, rfl, hs⟩
      | 1, ho =>
        obtain rfl := Option.some.inj ho
        refine .inl ⟨rfl, ?_⟩
        have y0 : y 0 = .slice ao5 n c5 := hx 0 (hd ⟨0, .data⟩ (by simp) rfl)
        refine slot_run (v := .string SB) (w' := wx) ?_ ⟨_, rfl, Below.refl _ _, rfl, hs⟩
        refine runWithK (fun z => match z with | .tmp 44 => y 0 | .const c => c | _ => undef) (by kernel_rfl) ?_
        rw [y0]
        have hcv := CV.out wx hs
        go_simp
      | 2, ho =>
        obtain rfl := Option.some.inj ho
        refine .inl ⟨rfl, ?_⟩
        exact slot_loadK 24 (.tmp 1) rfl ⟨g, 0, none⟩ rfl v.cells _ (KV.out wx hs) Tryz.underlying24 rfl (SZ.out v) ⟨_, rfl, Below.refl _ _, rfl, hs⟩
      | 3, ho =>
        obtain rfl := Option.some.inj ho
        refine .inl ⟨rfl, ?_⟩
        have y0 : y 2 = .agg v.cells.toArray := hx 2 (hd ⟨2, .data⟩ (by simp) rfl)
        refine slot_call #[.agg v.cells.toArray] rfl Tryz.func18 (by kernel_rfl) (by kernel_rfl) (by simp [Act.eval, y0]) ?_
        refine (CB.out wx hs).mono ?_
        rintro e w' ⟨rfl, hb⟩
        exact ⟨_, rfl, _, rfl, hb, rfl, hs.trans (hb.mono hs.size)⟩
      | 4, ho =>
        obtain rfl := Option.some.inj ho
        refine .inl ⟨rfl, ?_⟩
        have y0 : y 1 = .string SB := hx 1 (hd ⟨1, .data⟩ (by simp) rfl)
        have y1 : y 3 = .string SB := hx 3 (hd ⟨3, .data⟩ (by simp) rfl)
        refine slot_run (v := .bool true) (w' := wx) ?_ ⟨_, rfl, Below.refl _ _, rfl, hs⟩
        refine runWithK (fun z => match z with | .tmp 45 => y 1 | .tmp 47 => y 3 | .const c => c | _ => undef) (by kernel_rfl) ?_
        rw [y0, y1]
        go_simp
      | 5, ho =>
        obtain rfl := Option.some.inj ho
        refine .inl ⟨rfl, ?_⟩
        have y0 : y 4 = .bool true := hx 4 (hd ⟨4, .data⟩ (by simp) rfl)
        refine slot_run (v := .bool true) (w' := wx) ?_ ⟨_, rfl, Below.refl _ _, rfl, hs⟩
        refine runWithK (fun z => match z with | .tmp 48 => y 4 | .const c => c | _ => undef) (by kernel_rfl) ?_
        rw [y0]
        kernel_rfl
      | 6, ho =>
        obtain rfl := Option.some.inj ho
        have yg : y 5 = .bool true := hx 5 (hd ⟨5, .guard⟩ (by simp) rfl)
        refine .inl ⟨Eq.trans (b := gdV (y 5) true) (by kernel_rfl) (by rw [yg]; rfl), ?_⟩
        exact slot_run (v := .int .i64 0) (w' := wx) rfl ⟨_, rfl, Below.refl _ _, rfl, hs⟩
      | 7, ho =>
        obtain rfl := Option.some.inj ho
        have yg : y 5 = .bool true := hx 5 (hd ⟨5, .guard⟩ (by simp) rfl)
        refine .inl ⟨Eq.trans (b := gdV (y 5) true) (by kernel_rfl) (by rw [yg]; rfl), ?_⟩
        have y0 : y 6 = .int .i64 0 := hx 6 (hd ⟨6, .data⟩ (by simp) rfl)
        refine slot_run (v := .bool true) (w' := wx) ?_ ⟨_, rfl, Below.refl _ _, rfl, hs⟩
        refine runWithK (fun z => match z with | .tmp 50 => y 6 | .const c => c | _ => undef) (by kernel_rfl) ?_
        rw [y0]
        go_simp
      | 8, ho =>
        obtain rfl := Option.some.inj ho
        refine .inl ⟨rfl, ?_⟩
        have y0 : y 5 = .bool true := hx 5 (hd ⟨5, .data⟩ (by simp) rfl)
        have y1 : y 7 = .bool true := hx 7 (hd ⟨7, .data⟩ (by simp) rfl)
        refine slot_run (v := .bool true) (w' := wx) ?_ ⟨_, rfl, Below.refl _ _, rfl, hs⟩
        refine runWithK (fun z => match z with | .tmp 49 => y 5 | .tmp 51 => y 7 | .const c => c | _ => undef) (by kernel_rfl) ?_
        rw [y0, y1]
        kernel_rfl
      | 9, ho =>
        obtain rfl := Option.some.inj ho
        refine .inl ⟨rfl, ?_⟩
        have y0 : y 8 = .bool true := hx 8 (hd ⟨8, .data⟩ (by simp) rfl)
        refine slot_run (v := .bool true) (w' := wx) ?_ ⟨_, rfl, Below.refl _ _, rfl, hs⟩
        refine runWithK (fun z => match z with | .tmp 52 => y 8 | .const c => c | _ => undef) (by kernel_rfl) ?_
        rw [y0]
        kernel_rfl
      | 10, ho =>
        obtain rfl := Option.some.inj ho
        have yg : y 9 = .bool true := hx 9 (hd ⟨9, .guard⟩ (by simp) rfl)
        refine .inl ⟨Eq.trans (b := gdV (y 9) true) (by kernel_rfl) (by rw [yg]; rfl), ?_⟩
        exact slot_loadK 24 (.tmp 7) rfl ⟨g8, 0, none⟩ rfl U.cells _ (KU.out wx hs) Tryz.underlying24 rfl (SZ.out U) ⟨_, rfl, Below.refl _ _, rfl, hs⟩
      | 11, ho =>
        obtain rfl := Option.some.inj ho
        have yg : y 9 = .bool true := hx 9 (hd ⟨9, .guard⟩ (by simp) rfl)
        refine .inl ⟨Eq.trans (b := gdV (y 9) true) (by kernel_rfl) (by rw [yg]; rfl), ?_⟩
        exact slot_loadK 24 (.tmp 1) rfl ⟨g, 0, none⟩ rfl v.cells _ (KV.out wx hs) Tryz.underlying24 rfl (SZ.out v) ⟨_, rfl, Below.refl _ _, rfl, hs⟩
      | 12, ho =>
        obtain rfl := Option.some.inj ho
        have yg : y 9 = .bool true := hx 9 (hd ⟨9, .guard⟩ (by simp) rfl)
        refine .inl ⟨Eq.trans (b := gdV (y 9) true) (by kernel_rfl) (by rw [yg]; rfl), ?_⟩
        have y0 : y 10 = .agg U.cells.toArray := hx 10 (hd ⟨10, .data⟩ (by simp) rfl)
        have y1 : y 11 = .agg v.cells.toArray := hx 11 (hd ⟨11, .data⟩ (by simp) rfl)
        refine slot_call #[.agg U.cells.toArray, .agg v.cells.toArray] rfl Tryz.func19 (by kernel_rfl) (by kernel_rfl) (by simp [Act.eval, y0, y1]) ?_
        refine (CS.out wx hs).mono ?_
        rintro e w' ⟨rfl, hb⟩
        exact ⟨_, rfl, _, rfl, hb, rfl, hs.trans (hb.mono hs.size)⟩
      | 13, ho =>
        obtain rfl := Option.some.inj ho
        refine .inl ⟨rfl, ?_⟩
        have y0 : y 9 = .bool true := hx 9 (hd ⟨9, .data⟩ (by simp) rfl)
        have y1 : y 12 = .bool true := hx 12 (hd ⟨12, .data⟩ (by simp) rfl)
        refine slot_run (v := .bool true) (w' := wx) ?_ ⟨_, rfl, Below.refl _ _, rfl, hs⟩
        refine runWithK (fun z => match z with | .tmp 53 => y 9 | .tmp 56 => y 12 | .const c => c | _ => undef) (by kernel_rfl) ?_
        rw [y0, y1]
        kernel_rfl
      | 14, ho =>
        obtain rfl := Option.some.inj ho
        refine .inl ⟨rfl, ?_⟩
        have y0 : y 13 = .bool true := hx 13 (hd ⟨13, .data⟩ (by simp) rfl)
        refine slot_run (v := .bool true) (w' := wx) ?_ ⟨_, rfl, Below.refl _ _, rfl, hs⟩
        refine runWithK (fun z => match z with | .tmp 57 => y 13 | .const c => c | _ => undef) (by kernel_rfl) ?_
        rw [y0]
        kernel_rfl
      | 15, ho =>
        obtain rfl := Option.some.inj ho
        have yg : y 14 = .bool true := hx 14 (hd ⟨14, .guard⟩ (by simp) rfl)
        refine .inl ⟨Eq.trans (b := gdV (y 14) true) (by kernel_rfl) (by rw [yg]; rfl), ?_⟩
        exact slot_loadK 24 (.tmp 7) rfl ⟨g8, 0, none⟩ rfl U.cells _ (KU.out wx hs) Tryz.underlying24 rfl (SZ.out U) ⟨_, rfl, Below.refl _ _, rfl, hs⟩
      | 16, ho =>
        obtain rfl := Option.some.inj ho
        have yg : y 14 = .bool true := hx 14 (hd ⟨14, .guard⟩ (by simp) rfl)
        refine .inl ⟨Eq.trans (b := gdV (y 14) true) (by kernel_rfl) (by rw [yg]; rfl), ?_⟩
        exact slot_loadK 24 (.tmp 1) rfl ⟨g, 0, none⟩ rfl v.cells _ (KV.out wx hs) Tryz.underlying24 rfl (SZ.out v) ⟨_, rfl, Below.refl _ _, rfl, hs⟩
      | 17, ho =>
        obtain rfl := Option.some.inj ho
        have yg : y 14 = .bool true := hx 14 (hd ⟨14, .guard⟩ (by simp) rfl)
        refine .inl ⟨Eq.trans (b := gdV (y 14) true) (by kernel_rfl) (by rw [yg]; rfl), ?_⟩
        have y0 : y 15 = .agg U.cells.toArray := hx 15 (hd ⟨15, .data⟩ (by simp) rfl)
        have y1 : y 16 = .agg v.cells.toArray := hx 16 (hd ⟨16, .data⟩ (by simp) rfl)
        refine slot_call #[.agg U.cells.toArray, .agg v.cells.toArray] rfl Tryz.func20 (by kernel_rfl) (by kernel_rfl) (by simp [Act.eval, y0, y1]) ?_
        refine (CR.out wx hs).mono ?_
        rintro e w' ⟨rfl, hb⟩
        exact ⟨_, rfl, _, rfl, hb, rfl, hs.trans (hb.mono hs.size)⟩
      | 18, ho =>
        obtain rfl := Option.some.inj ho
        have yg : y 14 = .bool true := hx 14 (hd ⟨14, .guard⟩ (by simp) rfl)
        refine .inl ⟨Eq.trans (b := gdV (y 14) true) (by kernel_rfl) (by rw [yg]; rfl), ?_⟩
        have y0 : y 17 = .int .i64 0 := hx 17 (hd ⟨17, .data⟩ (by simp) rfl)
        refine slot_run (v := .bool true) (w' := wx) ?_ ⟨_, rfl, Below.refl _ _, rfl, hs⟩
        refine runWithK (fun z => match z with | .tmp 61 => y 17 | .const c => c | _ => undef) (by kernel_rfl) ?_
        rw [y0]
        go_simp
      | 19, ho =>
        obtain rfl := Option.some.inj ho
        refine .inl ⟨rfl, ?_⟩
        have y0 : y 14 = .bool true := hx 14 (hd ⟨14, .data⟩ (by simp) rfl)
        have y1 : y 18 = .bool true := hx 18 (hd ⟨18, .data⟩ (by simp) rfl)
        refine slot_run (v := .bool true) (w' := wx) ?_ ⟨_, rfl, Below.refl _ _, rfl, hs⟩
        refine runWithK (fun z => match z with | .tmp 58 => y 14 | .tmp 62 => y 18 | .const c => c | _ => undef) (by kernel_rfl) ?_
        rw [y0, y1]
        kernel_rfl
      | 20, ho =>
        obtain rfl := Option.some.inj ho
        refine .inl ⟨rfl, ?_⟩
        have y0 : y 19 = .bool true := hx 19 (hd ⟨19, .data⟩ (by simp) rfl)
        refine slot_run (v := .bool true) (w' := wx) ?_ ⟨_, rfl, Below.refl _ _, rfl, hs⟩
        refine runWithK (fun z => match z with | .tmp 63 => y 19 | .const c => c | _ => undef) (by kernel_rfl) ?_
        rw [y0]
        kernel_rfl
      | 21, ho =>
        obtain rfl := Option.some.inj ho
        have yg : y 20 = .bool true := hx 20 (hd ⟨20, .guard⟩ (by simp) rfl)
        refine .inl ⟨Eq.trans (b := gdV (y 20) true) (by kernel_rfl) (by rw [yg]; rfl), ?_⟩
        exact slot_loadK 24 (.tmp 1) rfl ⟨g, 0, none⟩ rfl v.cells _ (KV.out wx hs) Tryz.underlying24 rfl (SZ.out v) ⟨_, rfl, Below.refl _ _, rfl, hs⟩
      | 22, ho =>
        obtain rfl := Option.some.inj ho
        have yg : y 20 = .bool true := hx 20 (hd ⟨20, .guard⟩ (by simp) rfl)
        refine .inl ⟨Eq.trans (b := gdV (y 20) true) (by kernel_rfl) (by rw [yg]; rfl), ?_⟩
        have y0 : y 21 = .agg v.cells.toArray := hx 21 (hd ⟨21, .data⟩ (by simp) rfl)
        refine slot_call #[.agg v.cells.toArray] rfl Tryz.func21 (by kernel_rfl) (by kernel_rfl) (by simp [Act.eval, y0]) ?_
        refine (CP.out wx hs).mono ?_
        rintro e w' ⟨rfl, hb⟩
        exact ⟨_, rfl, _, rfl, hb, rfl, hs.trans (hb.mono hs.size)⟩
      | 23, ho =>
        obtain rfl := Option.some.inj ho
        have yg : y 20 = .bool true := hx 20 (hd ⟨20, .guard⟩ (by simp) rfl)
        refine .inl ⟨Eq.trans (b := gdV (y 20) true) (by kernel_rfl) (by rw [yg]; rfl), ?_⟩
        exact slot_run (v := .int .i64 (pc : Int)) (w' := wx) rfl ⟨_, rfl, Below.refl _ _, rfl, hs⟩
      | 24, ho =>
        obtain rfl := Option.some.inj ho
        have yg : y 20 = .bool true := hx 20 (hd ⟨20, .guard⟩ (by simp) rfl)
        refine .inl ⟨Eq.trans (b := gdV (y 20) true) (by kernel_rfl) (by rw [yg]; rfl), ?_⟩
        have y0 : y 22 = .int .i64 (pc : Int) := hx 22 (hd ⟨22, .data⟩ (by simp) rfl)
        have y1 : y 23 = .int .i64 (pc : Int) := hx 23 (hd ⟨23, .data⟩ (by simp) rfl)
        refine slot_run (v := .bool true) (w' := wx) ?_ ⟨_, rfl, Below.refl _ _, rfl, hs⟩
        refine runWithK (fun z => match z with | .tmp 66 => y 22 | .tmp 67 => y 23 | .const c => c | _ => undef) (by kernel_rfl) ?_
        rw [y0, y1]
        go_simp
      | 25, ho =>
        obtain rfl := Option.some.inj ho
        refine .inl ⟨rfl, ?_⟩
        have y0 : y 20 = .bool true := hx 20 (hd ⟨20, .data⟩ (by simp) rfl)
        have y1 : y 24 = .bool true := hx 24 (hd ⟨24, .data⟩ (by simp) rfl)
        refine slot_run (v := .bool true) (w' := wx) ?_ ⟨_, rfl, Below.refl _ _, rfl, hs⟩
        refine runWithK (fun z => match z with | .tmp 64 => y 20 | .tmp 68 => y 24 | .const c => c | _ => undef) (by kernel_rfl) ?_
        rw [y0, y1]
        kernel_rfl
      | 26, ho =>
        obtain rfl := Option.some.inj ho
        refine .inl ⟨rfl, ?_⟩
        have y0 : y 25 = .bool true := hx 25 (hd ⟨25, .data⟩ (by simp) rfl)
        refine slot_run (v := .bool true) (w' := wx) ?_ ⟨_, rfl, Below.refl _ _, rfl, hs⟩
        refine runWithK (fun z => match z with | .tmp 69 => y 25 | .const c => c | _ => undef) (by kernel_rfl) ?_
        rw [y0]
        kernel_rfl
      | 27, ho =>
        obtain rfl := Option.some.inj ho
        have yg : y 26 = .bool true := hx 26 (hd ⟨26, .guard⟩ (by simp) rfl)
        refine .inl ⟨Eq.trans (b := gdV (y 26) true) (by kernel_rfl) (by rw [yg]; rfl), ?_⟩
        exact slot_loadK 24 (.tmp 1) rfl ⟨g, 0, none⟩ rfl v.cells _ (KV.out wx hs) Tryz.underlying24 rfl (SZ.out v) ⟨_, rfl, Below.refl _ _, rfl, hs⟩
      | 28, ho =>
        obtain rfl := Option.some.inj ho
        have yg : y 26 = .bool true := hx 26 (hd ⟨26, .guard⟩ (by simp) rfl)
        refine .inl ⟨Eq.trans (b := gdV (y 26) true) (by kernel_rfl) (by rw [yg]; rfl), ?_⟩
        have y0 : y 27 = .agg v.cells.toArray := hx 27 (hd ⟨27, .data⟩ (by simp) rfl)
        refine slot_call #[.agg v.cells.toArray] rfl Tryz.func22 (by kernel_rfl) (by kernel_rfl) (by simp [Act.eval, y0]) ?_
        refine (CL.out wx hs).mono ?_
        rintro e w' ⟨⟨C, rfl, hz, ha⟩, hb⟩
        exact ⟨_, rfl, _, rfl, hb, ⟨C, rfl, hz, ha⟩, hs.trans (hb.mono hs.size)⟩
      | 29, ho =>
        obtain rfl := Option.some.inj ho
        have yg : y 26 = .bool true := hx 26 (hd ⟨26, .guard⟩ (by simp) rfl)
        refine .inl ⟨Eq.trans (b := gdV (y 26) true) (by kernel_rfl) (by rw [yg]; rfl), ?_⟩
        exact slot_loadK 24 (.tmp 1) rfl ⟨g, 0, none⟩ rfl v.cells _ (KV.out wx hs) Tryz.underlying24 rfl (SZ.out v) ⟨_, rfl, Below.refl _ _, rfl, hs⟩
      | 30, ho =>
        obtain rfl := Option.some.inj ho
        have yg : y 26 = .bool true := hx 26 (hd ⟨26, .guard⟩ (by simp) rfl)
        refine .inl ⟨Eq.trans (b := gdV (y 26) true) (by kernel_rfl) (by rw [yg]; rfl), ?_⟩
        obtain ⟨C, y0, hz, ha⟩ := hx 28 (hd ⟨28, .data⟩ (by simp) rfl)
        have y1 : y 29 = .agg v.cells.toArray := hx 29 (hd ⟨29, .data⟩ (by simp) rfl)
        refine slot_call #[.agg C.cells.toArray, .agg v.cells.toArray] rfl Tryz.func19 (by kernel_rfl) (by kernel_rfl) (by simp [Act.eval, y0, y1]) ?_
        refine (CT.out wx hs C hz ha).mono ?_
        rintro e w' ⟨rfl, hb⟩
        exact ⟨_, rfl, _, rfl, hb, rfl, hs.trans (hb.mono hs.size)⟩
      | 31, ho =>
        obtain rfl := Option.some.inj ho
        refine .inl ⟨rfl, ?_⟩
        have y0 : y 26 = .bool true := hx 26 (hd ⟨26, .data⟩ (by simp) rfl)
        have y1 : y 30 = .bool true := hx 30 (hd ⟨30, .data⟩ (by simp) rfl)
        refine slot_run (v := .bool true) (w' := wx) ?_ ⟨_, rfl, Below.refl _ _, rfl, hs⟩
        refine runWithK (fun z => match z with | .tmp 70 => y 26 | .tmp 74 => y 30 | .const c => c | _ => undef) (by kernel_rfl) ?_
        rw [y0, y1]
        kernel_rfl
      | 32, ho =>
        obtain rfl := Option.some.inj ho
        refine .inl ⟨rfl, ?_⟩
        have y0 : y 31 = .bool true := hx 31 (hd ⟨31, .data⟩ (by simp) rfl)
        refine slot_run (v := .bool true) (w' := wx) ?_ ⟨_, rfl, Below.refl _ _, rfl, hs⟩
        refine runWithK (fun z => match z with | .tmp 75 => y 31 | .const c => c | _ => undef) (by kernel_rfl) ?_
        rw [y0]
        kernel_rfl
      | k + 33, ho => simp at ho
    · intro L y wx hall hx hs
      have y32 : y 32 = .bool true := hx 32 (hall 32 (by decide))
      rw [y32]
      have RL := Lib.hid (RLF.out wx hs)
      clear hx hall hs y32
      go_wp2_with fail
      go_ret
      exact ⟨rfl, RL.out⟩
  · rw [if_neg he] at hP
    subst hP
    have he2 : (E == 0) = false := by simpa using he
    have he3 : (E != 0) = true := by simpa using he
    go_wp2_with (first | (with_reducible show wpList _ _ _ _ _ _; refine wpList_load_allW rfl 24 (.tmp 1) rfl ⟨g,0,none⟩ rfl v.cells _ Kw5.out Tryz.underlying24 rfl (Tryz.valSize v) ?_))
    refine HCC.out.mono ?_
    rintro e w6 ⟨rfl, hb6⟩
    have RL6 := Lib.hid (RL5.out.trans (hb6.mono RL5.out.size))
    clear hb6
    go_wp2_with fail
    go_ret
    exact ⟨rfl, RL6.out⟩
end Go.Proofs.YthfjahagmfgfeaaGreatDoor.Wi
