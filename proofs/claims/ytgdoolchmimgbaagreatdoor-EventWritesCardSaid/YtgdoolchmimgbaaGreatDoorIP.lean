/- The walk of EventChecks. -/
import Derived.Test.YtgdoolchmimgbaaGreatDoorIO
import Derived.Test.YtgdoolchmimgbaaGreatDoorIL
namespace Go.Proofs.YtgdoolchmimgbaaGreatDoor.Wi
open Go Go.RowKit
set_option linter.unusedVariables false
set_option linter.unusedSimpArgs false
def gdE (v : Value) (want : Bool) : Bool := (match v with | .bool b => some b | _ => none) == some want
set_option maxHeartbeats 16000000 in
set_option maxRecDepth 100000 in
theorem echecks_any (v : Ev) (w : World) (hv : v.At w.heap.size w) (hg : EB w.heap.size w) : Calls Tryz.prog 3 #[.agg v.cells.toArray] w fun e w' => e = .returned (.bool true) ∧ Below w.heap.size w w' := by
  obtain ⟨w1, hw1⟩ : ∃ bx, bx = w.alloc (.cells v.cells.toArray 26) := ⟨_, rfl⟩
  obtain ⟨g, hg⟩ : ∃ bx, bx = w.heap.size := ⟨_, rfl⟩
  have bw1 : Below w.heap.size w w1 := by rw [hw1]; exact (Below.refl _ _).alloc (Nat.le_refl _) _
  have nw1 : w1.heap[g]? = some (.cells v.cells.toArray 26 (0, 0)) := by rw [hw1, hg]; exact heap_alloc_new _ _
  have Kw1 := Lib.hid (rowE nw1)
  have Cw1 := Lib.hid (evC nw1)
  have Hw1 := Lib.hid hw1
  have Hg := Lib.hid hg
  have Bw1 := Lib.hid bw1
  have Nw1 := Lib.hid nw1
  clear hw1 hg bw1 nw1
  have HV := Lib.hid ((hv.below Bw1.out).mono Bw1.out.size)
  have G := Lib.hid ((hg.on Bw1.out).base Bw1.out.size)
  have CH := Lib.hid (tells_any w1 G.out)
  clear hv hg
  go_enter Tryz.func3, Tryz.ntmps3
  go_upto_region 1 with fail
  rw [← Hw1.out, ← Hg.out]
  go_wp2_with fail
  refine CH.out.mono ?_
  rintro e w2 ⟨rfl, hb2⟩
  have Kw2 := Lib.hid (rowEB (x := v) Nw1.out hb2)
  have hl4 := v.cells_len
  have CF := Lib.hid (esmall_one ((HV.out.below hb2).mono hb2.size))
  go_wp2_with (first | (with_reducible show wpList _ _ _ _ _ _; refine wpList_load_allW rfl 26 (.tmp 1) rfl ⟨g,0,none⟩ rfl v.cells _ Kw2.out Tryz.underlying26 rfl (Tryz.evSize v) ?_))
  clear hl4
  rw [bs1E]
  refine CF.out.mono ?_
  rintro e w3 ⟨⟨b, rfl⟩, hb3⟩
  have hb13 := hb2.trans (hb3.mono hb2.size)
  have RL3 := Lib.hid (Bw1.out.trans (hb13.mono Bw1.out.size))
  cases b
  · clear hb2 hb3 hb13
    go_wp2_with fail
    go_ret
    exact ⟨rfl, RL3.out⟩
  have Kw3 := Lib.hid (rowEB (x := v) Nw1.out hb13)
  obtain ⟨E, hE⟩ : ∃ E, E = v.vE := ⟨_, rfl⟩
  have CK := rcheckE_any v w1.heap.size w3 (HV.out.below hb13) hb13.size
  rw [← hE] at CK
  have HCK := Lib.hid CK
  have HB13 := Lib.hid hb13
  have HE := Lib.hid hE
  clear CK hE hb2 hb3 hb13
  go_wp2_with (first | (with_reducible show wpList _ _ _ _ _ _; refine wpList_load_allW rfl 26 (.tmp 1) rfl ⟨g,0,none⟩ rfl v.cells _ Kw3.out Tryz.underlying26 rfl (Tryz.evSize v) ?_))
  refine HCK.out.mono ?_
  rintro e w4 ⟨rfl, hb4⟩
  have HB14 := Lib.hid (HB13.out.trans (hb4.mono HB13.out.size))
  have Kw4 := Lib.hid (rowEB (x := v) Nw1.out HB14.out)
  have CE := eencode_any v w1.heap.size w4 (HV.out.below HB14.out) HB14.out.size (G.out.on HB14.out)
  have HCE := Lib.hid CE
  clear CE hb4 HCK
  go_wp2_with (first | (with_reducible show wpList _ _ _ _ _ _; refine wpList_load_allW rfl 26 (.tmp 1) rfl ⟨g,0,none⟩ rfl v.cells _ Kw4.out Tryz.underlying26 rfl (Tryz.evSize v) ?_))
  refine HCE.out.mono ?_
  rintro e w5 ⟨hb5, hP⟩
  have HB15 := Lib.hid (HB14.out.trans (hb5.mono HB14.out.size))
  have Kw5 := Lib.hid (rowEB (x := v) Nw1.out HB15.out)
  have CC := echeck_any v w1.heap.size w5 (HV.out.below HB15.out) HB15.out.size ((G.out.on HB15.out).base HB15.out.size)
  rw [← HE.out] at CC hP
  have HCC := Lib.hid CC
  have RL5 := Lib.hid (Bw1.out.trans (HB15.out.mono Bw1.out.size))
  clear CC hb5 HCE
  by_cases he : E = 0
  · rw [if_pos he] at hP
    obtain ⟨ao5, c5, rfl, own5⟩ := hP
    subst he
    have HVE := Lib.hid (show v.vE = 0 from HE.out.symm)
    have HF := Lib.hid (fine (Ev.fits HVE.out).val.1)
    obtain ⟨n, hn⟩ : ∃ n, n = v.eb.length := ⟨_, rfl⟩
    rw [← hn] at own5 ⊢
    have HN := Lib.hid hn
    have OWN := Lib.hid own5
    clear own5 hn
    go_wp2_with (first | (with_reducible show wpList _ _ _ _ _ _; refine wpList_load_allW rfl 26 (.tmp 1) rfl ⟨g,0,none⟩ rfl v.cells _ Kw5.out Tryz.underlying26 rfl (Tryz.evSize v) ?_))
    refine HCC.out.mono ?_
    rintro e w6 ⟨rfl, hb6⟩
    have HB56 := Lib.hid hb6
    have HB16 := Lib.hid (HB15.out.trans (hb6.mono HB15.out.size))
    have OWN6 := Lib.hid (own_belowK OWN.out hb6)
    have HS6 := Lib.hid (own_Sl OWN6.out HN.out.symm)
    have hle := eb_len HVE.out
    have CD := edecode_any HS6.out (by omega) ((G.out.on HB16.out).base HB16.out.size)
    have hnum : v.Num := ⟨HV.out.a.2, HV.out.b.2, HV.out.val.num⟩
    rw [dcE_fwd hnum HVE.out, ← HN.out] at CD
    have HCD := Lib.hid CD
    clear hb6 hle CD hnum HCC
    go_wp2_with fail
    refine HCD.out.mono ?_
    rintro e w7 ⟨U, rfl, hUz, hUa, hUin, hb7⟩
    obtain ⟨w8, hw8⟩ : ∃ bx, bx = w7.alloc (.cells U.cells.toArray 26) := ⟨_, rfl⟩
    obtain ⟨g8, hg8⟩ : ∃ bx, bx = w7.heap.size := ⟨_, rfl⟩
    have bw8 : Below w7.heap.size w7 w8 := by rw [hw8]; exact (Below.refl _ _).alloc (Nat.le_refl _) _
    have nw8 : w8.heap[g8]? = some (.cells U.cells.toArray 26 (0, 0)) := by rw [hw8, hg8]; exact heap_alloc_new _ _
    have Kw8 := Lib.hid (rowE nw8)
    have Cw8 := Lib.hid (evC nw8)
    have Hw8 := Lib.hid hw8
    have Hg8 := Lib.hid hg8
    have Bw8 := Lib.hid bw8
    have Nw8 := Lib.hid nw8
    clear hw8 hg8 bw8 nw8
    have hb68 : Below w6.heap.size w6 w8 := hb7.trans (Bw8.out.mono hb7.size)
    have hb18 : Below w1.heap.size w1 w8 := HB16.out.trans (hb68.mono HB16.out.size)
    have KV := Lib.hid (fun (W : World) (h : Below w8.heap.size w8 W) => rowEB (x := v) Nw1.out (hb18.trans (h.mono hb18.size)))
    have KU := Lib.hid (fun (W : World) (h : Below w8.heap.size w8 W) => rowEB (x := U) Nw8.out h)
    have RLF := Lib.hid (fun (W : World) (h : Below w8.heap.size w8 W) => (Bw1.out.trans (hb18.mono Bw1.out.size)).trans (h.mono (Nat.le_trans Bw1.out.size hb18.size)))
    obtain ⟨T, hT⟩ : ∃ T, T = str v.eb := ⟨_, rfl⟩
    have CV := Lib.hid (fun (W : World) (h : Below w8.heap.size w8 W) => show (convert 30 9 (.slice ao5 n c5)).run Tryz.prog W = .ok (.string T) W from by
      rw [hT]; exact own_conv (own_belowK OWN6.out (hb68.trans (h.mono hb68.size))) HN.out.symm)
    have hUa8 : U.At w8.heap.size w8 := (hUa.below Bw8.out).mono Bw8.out.size
    have hVa8 : v.At w8.heap.size w8 := (HV.out.below hb18).mono hb18.size
    have RB := Lib.hid (fun (W : World) (h : Below w8.heap.size w8 W) => show Calls Tryz.prog 18 #[.agg v.cells.toArray] W fun e w' => e = .returned (.string T) ∧ Below W.heap.size W w' from by
      rw [hT]; exact rbytesE_any v w8.heap.size W (hVa8.below h) HVE.out h.size)
    have hz : U.nz = v.nz := hUz
    have hz2 : v.nz = U.nz := hz.symm
    have hku : U.val.Kin := by rw [← nz_kin, ev_val_nz hz, nz_kin]; exact HF.out.kin
    have SM := Lib.hid (fun (W : World) (h : Below w8.heap.size w8 W) => show Calls Tryz.prog 19 #[.agg v.cells.toArray, .agg U.cells.toArray] W fun e w' => e = .returned (.bool true) ∧ Below W.heap.size W w' from by
      have h1 := esame_any v U HF.out.dpr w8.heap.size W (hVa8.below h) (hUa8.below h) h.size
      rw [(Ev.same_nz HF.out.kin).2 hz2] at h1
      exact h1)
    have RS := Lib.hid (fun (W : World) (h : Below w8.heap.size w8 W) => show Calls Tryz.prog 20 #[.agg v.cells.toArray, .agg U.cells.toArray] W fun e w' => e = .returned (.bool true) ∧ Below W.heap.size W w' from by
      have h1 := rsame_any v U HF.out.kin hku w8.heap.size W (hVa8.below h) (hUa8.below h) h.size
      rw [(Ev.same_nz HF.out.kin).2 hz2] at h1
      exact h1)
    clear hUz hUa hUin hb7 hb68 hb18 hT hUa8 hVa8 hz hz2 hku
    go_upto_region 12 with (first | (with_reducible show wpList _ _ _ _ _ _; refine wpList_store_newW rfl 26 (.tmp 6) (.tmp 38) rfl 26 _ U.cells.toArray rfl rfl (Tryz.evSize' U) (by with_unfolding_all exact Ev.eleven U) U.cells_one ?_; rw [← Hw8.out, ← Hg8.out]))
    refine wp_region_slotsG (by kernel_rfl) (by kernel_rfl)
      (fun y => ⟨#[Value.agg v.cells.toArray, Value.pointer (some { block := g, off := 0 }), y 19, Value.int IntKind.i64 0, Value.slice ao5 n c5, Value.int IntKind.i64 0, Value.pointer (some { block := g8, off := 0 }), Value.int IntKind.i64 0, Value.bool true, Value.bool false, Value.agg v.cells.toArray, Value.slice (some { block := w2.heap.size, off := 0 }) 1 1, Value.bool true, Value.bool false, Value.agg v.cells.toArray, Value.int IntKind.i64 0, Value.tuple #[Value.slice ao5 n c5, Value.int IntKind.i64 0], Value.agg v.cells.toArray, Value.tuple #[Value.slice ao5 n c5, Value.int IntKind.i64 0], Value.slice ao5 n c5, Value.int IntKind.i64 0, Value.agg v.cells.toArray, Value.int IntKind.i64 0, Value.int IntKind.i64 0, Value.bool false, Value.bool false, Value.int IntKind.i64 0, Value.int IntKind.i64 0, Value.bool false, Value.bool false, Value.int IntKind.i64 0, Value.bool false, undef, undef, undef, Value.tuple #[Value.agg U.cells.toArray, Value.int IntKind.i64 0], Value.slice ao5 n c5, Value.tuple #[Value.agg U.cells.toArray, Value.int IntKind.i64 0], Value.agg U.cells.toArray, Value.int IntKind.i64 0, y 0, y 1, y 2, y 3, y 4, y 5, y 6, y 7, y 8, y 9, y 10, y 11, y 12, y 13, y 14, y 15, y 16, y 17, y 18], []⟩)
      (fun j q W => match j with | 0 => q = .slice ao5 n c5 | 1 => q = .string T | 2 => q = .agg v.cells.toArray | 3 => q = .string T | 4 => q = .bool true | 5 => q = .bool true | 6 => q = .int .i64 0 | 7 => q = .bool true | 8 => q = .bool true | 9 => q = .bool true | 10 => q = .agg v.cells.toArray | 11 => q = .agg U.cells.toArray | 12 => q = .bool true | 13 => q = .bool true | 14 => q = .bool true | 15 => q = .agg v.cells.toArray | 16 => q = .agg U.cells.toArray | 17 => q = .bool true | 18 => q = .bool true | 19 => q = .bool true | _ => True)
      (fun L W => Below w8.heap.size w8 W) (fun W W' => Below W.heap.size W W') ?_ ?_ ?_ (fun j => match j with | 0 => undef | 1 => undef | 2 => undef | 3 => undef | 4 => undef | 5 => undef | 6 => undef | 7 => undef | 8 => undef | 9 => undef | 10 => undef | 11 => undef | 12 => undef | 13 => undef | 14 => undef | 15 => undef | 16 => undef | 17 => undef | 18 => undef | 19 => Value.bool false | _ => undef) rfl (below_drewG (Below.refl _ _) 1)
    · intro j q W W' hr hf
      match j, hf with
      | 0, h => exact h
      | 1, h => exact h
      | 2, h => exact h
      | 3, h => exact h
      | 4, h => exact h
      | 5, h => exact h
      | 6, h => exact h
      | 7, h => exact h
      | 8, h => exact h
      | 9, h => exact h
      | 10, h => exact h
      | 11, h => exact h
      | 12, h => exact h
      | 13, h => exact h
      | 14, h => exact h
      | 15, h => exact h
      | 16, h => exact h
      | 17, h => exact h
      | 18, h => exact h
      | 19, h => exact h
      | k + 20, _ => trivial
    · intro i' o ho L y wx hd hi' hx hs
      match i', ho with
      | 0, ho =>
        obtain rfl := Option.some.inj ho
        refine .inl ⟨rfl, ?_⟩
        exact slot_run (v := .slice ao5 n c5) (w' := wx) rfl ⟨_, rfl, Below.refl _ _, rfl, hs⟩
      | 1, ho =>
        obtain rfl := Option.some.inj ho
        refine .inl ⟨rfl, ?_⟩
        have y0 : y 0 = .slice ao5 n c5 := hx 0 (hd ⟨0, .data⟩ (by simp) rfl)
        refine slot_run (v := .string T) (w' := wx) ?_ ⟨_, rfl, Below.refl _ _, rfl, hs⟩
        refine runWithK (fun z => match z with | .tmp 40 => y 0 | .const c => c | _ => undef) (by kernel_rfl) ?_
        rw [y0]
        have hcv := CV.out wx hs
        go_simp
      | 2, ho =>
        obtain rfl := Option.some.inj ho
        refine .inl ⟨rfl, ?_⟩
        exact slot_loadK 26 (.tmp 1) rfl ⟨g, 0, none⟩ rfl v.cells _ (KV.out wx hs) Tryz.underlying26 rfl (Tryz.evSize v) ⟨_, rfl, Below.refl _ _, rfl, hs⟩
      | 3, ho =>
        obtain rfl := Option.some.inj ho
        refine .inl ⟨rfl, ?_⟩
        have y0 : y 2 = .agg v.cells.toArray := hx 2 (hd ⟨2, .data⟩ (by simp) rfl)
        refine slot_call #[.agg v.cells.toArray] rfl Tryz.func18 (by kernel_rfl) (by kernel_rfl) (by simp [Act.eval, y0]) ?_
        refine (RB.out wx hs).mono ?_
        rintro e w' ⟨rfl, hb⟩
        exact ⟨_, rfl, _, rfl, hb, rfl, hs.trans (hb.mono hs.size)⟩
      | 4, ho =>
        obtain rfl := Option.some.inj ho
        refine .inl ⟨rfl, ?_⟩
        have y0 : y 1 = .string T := hx 1 (hd ⟨1, .data⟩ (by simp) rfl)
        have y1 : y 3 = .string T := hx 3 (hd ⟨3, .data⟩ (by simp) rfl)
        refine slot_run (v := .bool true) (w' := wx) ?_ ⟨_, rfl, Below.refl _ _, rfl, hs⟩
        refine runWithK (fun z => match z with | .tmp 41 => y 1 | .tmp 43 => y 3 | .const c => c | _ => undef) (by kernel_rfl) ?_
        rw [y0, y1]
        go_simp
      | 5, ho =>
        obtain rfl := Option.some.inj ho
        refine .inl ⟨rfl, ?_⟩
        have y0 : y 4 = .bool true := hx 4 (hd ⟨4, .data⟩ (by simp) rfl)
        refine slot_run (v := .bool true) (w' := wx) ?_ ⟨_, rfl, Below.refl _ _, rfl, hs⟩
        refine runWithK (fun z => match z with | .tmp 44 => y 4 | .const c => c | _ => undef) (by kernel_rfl) ?_
        rw [y0]
        kernel_rfl
      | 6, ho =>
        obtain rfl := Option.some.inj ho
        have yg : y 5 = .bool true := hx 5 (hd ⟨5, .guard⟩ (by simp) rfl)
        refine .inl ⟨Eq.trans (b := gdE (y 5) true) (by kernel_rfl) (by rw [yg]; rfl), ?_⟩
        exact slot_run (v := .int .i64 0) (w' := wx) rfl ⟨_, rfl, Below.refl _ _, rfl, hs⟩
      | 7, ho =>
        obtain rfl := Option.some.inj ho
        have yg : y 5 = .bool true := hx 5 (hd ⟨5, .guard⟩ (by simp) rfl)
        refine .inl ⟨Eq.trans (b := gdE (y 5) true) (by kernel_rfl) (by rw [yg]; rfl), ?_⟩
        have y0 : y 6 = .int .i64 0 := hx 6 (hd ⟨6, .data⟩ (by simp) rfl)
        refine slot_run (v := .bool true) (w' := wx) ?_ ⟨_, rfl, Below.refl _ _, rfl, hs⟩
        refine runWithK (fun z => match z with | .tmp 46 => y 6 | .const c => c | _ => undef) (by kernel_rfl) ?_
        rw [y0]
        go_simp
      | 8, ho =>
        obtain rfl := Option.some.inj ho
        refine .inl ⟨rfl, ?_⟩
        have y0 : y 5 = .bool true := hx 5 (hd ⟨5, .data⟩ (by simp) rfl)
        have y1 : y 7 = .bool true := hx 7 (hd ⟨7, .data⟩ (by simp) rfl)
        refine slot_run (v := .bool true) (w' := wx) ?_ ⟨_, rfl, Below.refl _ _, rfl, hs⟩
        refine runWithK (fun z => match z with | .tmp 45 => y 5 | .tmp 47 => y 7 | .const c => c | _ => undef) (by kernel_rfl) ?_
        rw [y0, y1]
        kernel_rfl
      | 9, ho =>
        obtain rfl := Option.some.inj ho
        refine .inl ⟨rfl, ?_⟩
        have y0 : y 8 = .bool true := hx 8 (hd ⟨8, .data⟩ (by simp) rfl)
        refine slot_run (v := .bool true) (w' := wx) ?_ ⟨_, rfl, Below.refl _ _, rfl, hs⟩
        refine runWithK (fun z => match z with | .tmp 48 => y 8 | .const c => c | _ => undef) (by kernel_rfl) ?_
        rw [y0]
        kernel_rfl
      | 10, ho =>
        obtain rfl := Option.some.inj ho
        have yg : y 9 = .bool true := hx 9 (hd ⟨9, .guard⟩ (by simp) rfl)
        refine .inl ⟨Eq.trans (b := gdE (y 9) true) (by kernel_rfl) (by rw [yg]; rfl), ?_⟩
        exact slot_loadK 26 (.tmp 1) rfl ⟨g, 0, none⟩ rfl v.cells _ (KV.out wx hs) Tryz.underlying26 rfl (Tryz.evSize v) ⟨_, rfl, Below.refl _ _, rfl, hs⟩
      | 11, ho =>
        obtain rfl := Option.some.inj ho
        have yg : y 9 = .bool true := hx 9 (hd ⟨9, .guard⟩ (by simp) rfl)
        refine .inl ⟨Eq.trans (b := gdE (y 9) true) (by kernel_rfl) (by rw [yg]; rfl), ?_⟩
        exact slot_loadK 26 (.tmp 6) rfl ⟨g8, 0, none⟩ rfl U.cells _ (KU.out wx hs) Tryz.underlying26 rfl (Tryz.evSize U) ⟨_, rfl, Below.refl _ _, rfl, hs⟩
      | 12, ho =>
        obtain rfl := Option.some.inj ho
        have yg : y 9 = .bool true := hx 9 (hd ⟨9, .guard⟩ (by simp) rfl)
        refine .inl ⟨Eq.trans (b := gdE (y 9) true) (by kernel_rfl) (by rw [yg]; rfl), ?_⟩
        have y0 : y 10 = .agg v.cells.toArray := hx 10 (hd ⟨10, .data⟩ (by simp) rfl)
        have y1 : y 11 = .agg U.cells.toArray := hx 11 (hd ⟨11, .data⟩ (by simp) rfl)
        refine slot_call #[.agg v.cells.toArray, .agg U.cells.toArray] rfl Tryz.func19 (by kernel_rfl) (by kernel_rfl) (by simp [Act.eval, y0, y1]) ?_
        refine (SM.out wx hs).mono ?_
        rintro e w' ⟨rfl, hb⟩
        exact ⟨_, rfl, _, rfl, hb, rfl, hs.trans (hb.mono hs.size)⟩
      | 13, ho =>
        obtain rfl := Option.some.inj ho
        refine .inl ⟨rfl, ?_⟩
        have y0 : y 9 = .bool true := hx 9 (hd ⟨9, .data⟩ (by simp) rfl)
        have y1 : y 12 = .bool true := hx 12 (hd ⟨12, .data⟩ (by simp) rfl)
        refine slot_run (v := .bool true) (w' := wx) ?_ ⟨_, rfl, Below.refl _ _, rfl, hs⟩
        refine runWithK (fun z => match z with | .tmp 49 => y 9 | .tmp 52 => y 12 | .const c => c | _ => undef) (by kernel_rfl) ?_
        rw [y0, y1]
        kernel_rfl
      | 14, ho =>
        obtain rfl := Option.some.inj ho
        refine .inl ⟨rfl, ?_⟩
        have y0 : y 13 = .bool true := hx 13 (hd ⟨13, .data⟩ (by simp) rfl)
        refine slot_run (v := .bool true) (w' := wx) ?_ ⟨_, rfl, Below.refl _ _, rfl, hs⟩
        refine runWithK (fun z => match z with | .tmp 53 => y 13 | .const c => c | _ => undef) (by kernel_rfl) ?_
        rw [y0]
        kernel_rfl
      | 15, ho =>
        obtain rfl := Option.some.inj ho
        have yg : y 14 = .bool true := hx 14 (hd ⟨14, .guard⟩ (by simp) rfl)
        refine .inl ⟨Eq.trans (b := gdE (y 14) true) (by kernel_rfl) (by rw [yg]; rfl), ?_⟩
        exact slot_loadK 26 (.tmp 1) rfl ⟨g, 0, none⟩ rfl v.cells _ (KV.out wx hs) Tryz.underlying26 rfl (Tryz.evSize v) ⟨_, rfl, Below.refl _ _, rfl, hs⟩
      | 16, ho =>
        obtain rfl := Option.some.inj ho
        have yg : y 14 = .bool true := hx 14 (hd ⟨14, .guard⟩ (by simp) rfl)
        refine .inl ⟨Eq.trans (b := gdE (y 14) true) (by kernel_rfl) (by rw [yg]; rfl), ?_⟩
        exact slot_loadK 26 (.tmp 6) rfl ⟨g8, 0, none⟩ rfl U.cells _ (KU.out wx hs) Tryz.underlying26 rfl (Tryz.evSize U) ⟨_, rfl, Below.refl _ _, rfl, hs⟩
      | 17, ho =>
        obtain rfl := Option.some.inj ho
        have yg : y 14 = .bool true := hx 14 (hd ⟨14, .guard⟩ (by simp) rfl)
        refine .inl ⟨Eq.trans (b := gdE (y 14) true) (by kernel_rfl) (by rw [yg]; rfl), ?_⟩
        have y0 : y 15 = .agg v.cells.toArray := hx 15 (hd ⟨15, .data⟩ (by simp) rfl)
        have y1 : y 16 = .agg U.cells.toArray := hx 16 (hd ⟨16, .data⟩ (by simp) rfl)
        refine slot_call #[.agg v.cells.toArray, .agg U.cells.toArray] rfl Tryz.func20 (by kernel_rfl) (by kernel_rfl) (by simp [Act.eval, y0, y1]) ?_
        refine (RS.out wx hs).mono ?_
        rintro e w' ⟨rfl, hb⟩
        exact ⟨_, rfl, _, rfl, hb, rfl, hs.trans (hb.mono hs.size)⟩
      | 18, ho =>
        obtain rfl := Option.some.inj ho
        refine .inl ⟨rfl, ?_⟩
        have y0 : y 14 = .bool true := hx 14 (hd ⟨14, .data⟩ (by simp) rfl)
        have y1 : y 17 = .bool true := hx 17 (hd ⟨17, .data⟩ (by simp) rfl)
        refine slot_run (v := .bool true) (w' := wx) ?_ ⟨_, rfl, Below.refl _ _, rfl, hs⟩
        refine runWithK (fun z => match z with | .tmp 54 => y 14 | .tmp 57 => y 17 | .const c => c | _ => undef) (by kernel_rfl) ?_
        rw [y0, y1]
        kernel_rfl
      | 19, ho =>
        obtain rfl := Option.some.inj ho
        refine .inl ⟨rfl, ?_⟩
        have y0 : y 18 = .bool true := hx 18 (hd ⟨18, .data⟩ (by simp) rfl)
        refine slot_run (v := .bool true) (w' := wx) ?_ ⟨_, rfl, Below.refl _ _, rfl, hs⟩
        refine runWithK (fun z => match z with | .tmp 58 => y 18 | .const c => c | _ => undef) (by kernel_rfl) ?_
        rw [y0]
        kernel_rfl
      | k + 20, ho => simp at ho
    · intro L y wx hall hx hs
      have yz : y 19 = .bool true := hx 19 (hall 19 (by decide))
      rw [yz]
      have RL := Lib.hid (RLF.out wx hs)
      clear hx hall hs yz
      go_wp2_with fail
      go_ret
      exact ⟨rfl, RL.out⟩
  · rw [if_neg he] at hP
    subst hP
    have he2 : (E != 0) = true := by simpa using he
    go_wp2_with (first | (with_reducible show wpList _ _ _ _ _ _; refine wpList_load_allW rfl 26 (.tmp 1) rfl ⟨g,0,none⟩ rfl v.cells _ Kw5.out Tryz.underlying26 rfl (Tryz.evSize v) ?_))
    refine HCC.out.mono ?_
    rintro e w6 ⟨rfl, hb6⟩
    have RL6 := Lib.hid (RL5.out.trans (hb6.mono RL5.out.size))
    clear hb6
    go_wp2_with fail
    go_ret
    exact ⟨rfl, RL6.out⟩
end Go.Proofs.YtgdoolchmimgbaaGreatDoor.Wi
