/- The walk of WholeTold. -/
import Derived.Test.YthfjahagmfgfeaaGreatDoorH4
import Derived.Test.YthfjahagmfgfeaaGreatDoorG2
import Derived.Test.YthfjahagmfgfeaaGreatDoorKCl
import Derived.Test.YthfjahagmfgfeaaGreatDoorWR
namespace Go.Proofs.YthfjahagmfgfeaaGreatDoor.Wi
open Go Go.RowKit
set_option linter.unusedVariables false
set_option linter.unusedSimpArgs false
/-- The value of the head, but for its places. -/
def vW : VT := .mk 3 0 [] none 0 [.mk 0 0 [] none 0 [], ofV 5, txV [97]]
theorem vW_nz : vW.nz = vW := by simp [vW, VT.nz, nzL, ofV, txV]
theorem vW_chk : vW.chk 0 0 = (0, 4) := by simp [vW, VT.chk, chkL, ofV, txV]
theorem vW_vb : vW.vb = [3, 3, 0, 1, 10, 2, 1, 97] := by decide +kernel
theorem vW_vE : vW.vE = 0 := by
  unfold VT.vE
  rw [vW_chk, vW_vb]
  simp
theorem vW_num : vW.Num := by simp [vW, VT.Num, NumL, ofV, txV]
theorem vW_pts : vW.pts = 4 := by simp [vW, VT.pts, ptsL, ofV, txV]
theorem vW_pv : vW.pv = [91, 110, 105, 108, 32, 53, 32, 34, 97, 34, 93] := by
  have h5 : Lib.itoa 5 = [53] := by
    have : Lib.decDigits 5 = [53] := Lib.decDigits_one (by decide)
    simpa [Lib.itoa] using this
  simp [vW, VT.pv, pvL, ofV, txV, h5, qt, qcs, qc]
theorem vE_list {n : Int} {s : List UInt8} {ao ao' : Option Addr} {c c' : Nat} {l l' : List VT} (h : nzL l = nzL l') : (VT.mk 3 n s ao c l).nz = (VT.mk 3 n s ao' c' l').nz := by
  rw [VT.nz, VT.nz, h]
set_option maxHeartbeats 16000000 in
set_option maxRecDepth 100000 in
theorem told_any (v : VT) (S : ByteArray) (t : Int) (ht : -9223372036854775808 ≤ t ∧ t ≤ 9223372036854775807) (w : World) (hv : v.At w.heap.size w) (hg : GB w.heap.size w) (hT : Cr.CT w) :
    Calls Tryz.prog 11 #[.agg v.cells.toArray, .string S, .int .i64 t] w fun e w' => e = .returned (.bool true) ∧ Below w.heap.size w w' := by
  obtain ⟨w1, hw1⟩ : ∃ bx, bx = w.alloc (.cells v.cells.toArray 24) := ⟨_, rfl⟩
  obtain ⟨g, hg⟩ : ∃ bx, bx = w.heap.size := ⟨_, rfl⟩
  have bw1 : Below w.heap.size w w1 := by rw [hw1]; exact (Below.refl _ _).alloc (Nat.le_refl _) _
  have nw1 : w1.heap[g]? = some (.cells v.cells.toArray 24 (0, 0)) := by rw [hw1, hg]; exact heap_alloc_new _ _
  have Kw1 := Lib.hid (rowK nw1)
  have Hw1 := Lib.hid hw1
  have Hg := Lib.hid hg
  have Bw1 := Lib.hid bw1
  have Nw1 := Lib.hid nw1
  clear hw1 hg bw1 nw1
  have HV := Lib.hid ((hv.below Bw1.out).mono Bw1.out.size)
  have G := Lib.hid ((hg.on Bw1.out).base Bw1.out.size)
  have CTw := Lib.hid (fun (W : World) (h : Below w.heap.size w W) => hT.below h (Nat.le_refl _))
  obtain ⟨s, hs⟩ : ∃ s, s = S.data.toList := ⟨_, rfl⟩
  have hS : S = str s := by rw [hs]; simp [str]
  have hsz : S.size = s.length := by rw [hS]; exact str_sizeX s
  have HS := Lib.hid hS
  have HSZ := Lib.hid hsz
  have CW := vparse_any (w := w1) (l := vW.pv) (by rw [vW_pv]; decide) G.out
  rw [prV_fwd vW_num vW_vE, vW_nz, show str vW.pv = (⟨#[91, 110, 105, 108, 32, 53, 32, 34, 97, 34, 93]⟩ : ByteArray) by rw [vW_pv]; rfl] at CW
  have HCW := Lib.hid CW
  have SZ := Lib.hid Tryz.valSize
  clear hv hg hT hs hS hsz CW
  go_enter Tryz.func11, Tryz.ntmps11
  go_upto_region 1 with fail
  rw [← Hw1.out, ← Hg.out]
  go_wp2_with fail
  refine HCW.out.mono ?_
  rintro e w2 ⟨U0, rfl, hUz, hUa, _, hb2⟩
  obtain ⟨w3, hw3⟩ : ∃ bx, bx = w2.alloc (.cells U0.cells.toArray 24) := ⟨_, rfl⟩
  obtain ⟨g3, hg3⟩ : ∃ bx, bx = w2.heap.size := ⟨_, rfl⟩
  have bw3 : Below w2.heap.size w2 w3 := by rw [hw3]; exact (Below.refl _ _).alloc (Nat.le_refl _) _
  have nw3 : w3.heap[g3]? = some (.cells U0.cells.toArray 24 (0, 0)) := by rw [hw3, hg3]; exact heap_alloc_new _ _
  have Kw3 := Lib.hid (rowK nw3)
  have Hw3 := Lib.hid hw3
  have Hg3 := Lib.hid hg3
  have Bw3 := Lib.hid bw3
  have Nw3 := Lib.hid nw3
  clear hw3 hg3 bw3 nw3
  have hUz' : U0.nz = vW := hUz
  have B3 := Lib.hid (hb2.trans (Bw3.out.mono hb2.size))
  have CP := Lib.hid (show Calls Tryz.prog 21 #[.agg U0.cells.toArray] w3 fun e w' => e = .returned (.int .i64 4) ∧ Below w3.heap.size w3 w' from by
    have h1 := vparts_any U0 (by rw [← nz_dpr, hUz']; exact chk_dpr _ 0 0 65536 (by rw [vW_chk]) (by omega)) (by rw [← nz_pts, hUz', vW_pts]; omega) w3.heap.size w3 ((hUa.below Bw3.out).mono Bw3.out.size) (Nat.le_refl _)
    rw [← nz_pts U0, hUz', vW_pts] at h1
    exact h1)
  clear hUz hUz' hUa hb2 HCW
  go_wp2_with (first
    | (with_reducible show wpList _ _ _ _ _ _; refine wpList_store_newW rfl 24 (.tmp 7) (.tmp 26) rfl 24 _ U0.cells.toArray rfl rfl (Tryz.valSize' U0) (by with_unfolding_all exact VT.four U0) U0.cells_one ?_; rw [← Hw3.out, ← Hg3.out])
    | (with_reducible show wpList _ _ _ _ _ _; refine wpList_loadWanted (by with_unfolding_all rfl) 24 (.tmp 7) rfl ⟨g3,0,none⟩ (by with_unfolding_all rfl) U0.cells _ Kw3.out Tryz.underlying24 rfl (Tryz.valSize U0) ?_))
  refine CP.out.mono ?_
  rintro e w4 ⟨rfl, hb4⟩
  have B4 := Lib.hid (B3.out.trans (hb4.mono B3.out.size))
  have RL4 := Lib.hid (Bw1.out.trans (B4.out.mono Bw1.out.size))
  clear hb4 CP
  by_cases h100 : (100 : Int) < (S.size : Int)
  · go_wp2_with fail
    go_ret
    exact ⟨rfl, RL4.out⟩
  have h100b : decide (100 < S.size) = false := decide_eq_false (by omega)
  have h100c : decide ((100 : Int) < (S.size : Int)) = false := decide_eq_false h100
  have Kw4 := Lib.hid (rowB (v := v) Nw1.out B4.out)
  have CC := vcheck_any v w1.heap.size w4 (HV.out.below B4.out) B4.out.size
  obtain ⟨E, hE⟩ : ∃ E, E = v.vE := ⟨_, rfl⟩
  rw [← hE] at CC
  have HCC := Lib.hid CC
  have HE := Lib.hid hE
  clear CC hE
  go_wp2_with (first
    | (with_reducible show wpList _ _ _ _ _ _; refine wpList_loadWanted (by with_unfolding_all rfl) 24 (.tmp 3) rfl ⟨g,0,none⟩ (by with_unfolding_all rfl) v.cells _ Kw4.out Tryz.underlying24 rfl (Tryz.valSize v) ?_))
  refine HCC.out.mono ?_
  rintro e w5 ⟨rfl, hb5⟩
  have B5 := Lib.hid (B4.out.trans (hb5.mono B4.out.size))
  have RL5 := Lib.hid (Bw1.out.trans (B5.out.mono Bw1.out.size))
  clear hb5 HCC
  by_cases he : ¬ E = 0
  · have he2 : (E != 0) = true := by simpa using he
    go_wp2_with fail
    go_ret
    exact ⟨rfl, RL5.out⟩
  have he0 : E = 0 := Decidable.not_not.1 he
  clear he
  subst he0
  by_cases ht0 : t < 0
  · go_wp2_with fail
    go_ret
    exact ⟨rfl, RL5.out⟩
  by_cases ht1 : 2147483648 < t
  · go_wp2_with fail
    go_ret
    exact ⟨rfl, RL5.out⟩
  have HF := Lib.hid (fine HE.out.symm)
  have V5 := Lib.hid (fun (W : World) (h : Below w5.heap.size w5 W) => ((HV.out.below (B5.out.trans (h.mono B5.out.size))).mono B5.out.size))
  have K5 := Lib.hid (fun (W : World) (h : Below w5.heap.size w5 W) => rowB (v := v) Nw1.out (B5.out.trans (h.mono B5.out.size)))
  have hs100 : s.length ≤ 100 := by have := HSZ.out; omega
  obtain ⟨L3, hL3⟩ : ∃ L3 : List VT, L3 = [v, txV s, ofV t] := ⟨_, rfl⟩
  obtain ⟨XN, hXN⟩ : ∃ XN : VT, XN = (VT.mk 3 0 [] none 0 L3).nz := ⟨_, rfl⟩
  have HL3 := Lib.hid hL3
  have HXN := Lib.hid hXN
  have CTx := Lib.hid (fun (W : World) => show Calls Tryz.prog 33 #[.string S] W (AnsV (txV s) W) from by rw [HS.out]; exact vtext_any s W)
  have COf := Lib.hid (fun (W : World) => vof_any t W)
  have CLs := Lib.hid (fun (W : World) (g5 : Nat) (h : (VT.mk 3 0 [] (some ⟨g5, 0, none⟩) 3 L3).At W.heap.size W) => show Calls Tryz.prog 34 #[.slice (some ⟨g5, 0, none⟩) 3 3] W fun e w' => (∃ X : VT, e = .returned (.agg X.cells.toArray) ∧ X.nz = XN ∧ X.At w'.heap.size w' ∧ X.In (W.heap.size ≤ ·)) ∧ Below W.heap.size W w' from by
    have hdp : (VT.mk 3 0 [] (some ⟨g5, 0, none⟩) 3 L3).dpr 65536 = false := by
      have h1 : ∀ m, 8 < m → v.dpr m = false := fun m hm => chk_dpr v 0 0 m (vE_ok HE.out.symm).1 (by omega)
      rw [VT.dpr, if_pos rfl, if_neg (by omega), HL3.out]
      simp [dprL, h1, txV, ofV, VT.dpr]
    have h3 : L3.length = 3 := by rw [HL3.out]; rfl
    have h1 := vlist_any (some ⟨g5, 0, none⟩) 3 L3 W.heap.size W h hdp (Nat.le_refl _)
    rw [h3] at h1
    refine h1.mono ?_
    rintro e w' ⟨ao, c, Y, rfl, hC, hb⟩
    exact ⟨⟨_, rfl, (cln_nz hC).trans (by rw [HXN.out]; exact vE_list (n := 0) (s := []) rfl), cln_at hC h, cln_in hC⟩, hb⟩)
  have MK3 := Lib.hid (fun (W : World) (h : v.At W.heap.size W) => show (VT.mk 3 0 [] (some ⟨W.heap.size, 0, none⟩) 3 L3).At (W.alloc (.cells (vcs L3).toArray 24)).heap.size (W.alloc (.cells (vcs L3).toArray 24)) from by
    refine list_new (by rw [HL3.out]; simp) ?_
    intro x hx
    rw [HL3.out] at hx
    have h1 : x = v ∨ x = txV s ∨ x = ofV t := by simpa using hx
    rcases h1 with rfl | rfl | rfl
    · exact h
    · exact mk0_at (by omega) (by omega) (by omega)
    · exact mk0_at (by omega) ht (by simp))
  clear hL3 hXN
  go_upto_region 6 with fail
  refine wp_region_slotsJ (by kernel_rfl) (by kernel_rfl)
    (fun y => ⟨#[Value.agg v.cells.toArray, Value.string S, Value.int IntKind.i64 t, Value.pointer (some { block := g, off := 0 }), undef, undef, Value.bool false, Value.pointer (some { block := g3, off := 0 }), Value.int IntKind.i64 0, y 7, undef, undef, undef, undef, undef, undef, undef, undef, undef, undef, undef, undef, undef, undef, Value.tuple #[Value.agg U0.cells.toArray, Value.int IntKind.i64 0], Value.tuple #[Value.agg U0.cells.toArray, Value.int IntKind.i64 0], Value.agg U0.cells.toArray, Value.int IntKind.i64 0, Value.int IntKind.i64 0, Value.bool false, Value.bool false, Value.agg U0.cells.toArray, Value.int IntKind.i64 4, Value.bool false, Value.bool false, Value.string S, Value.int IntKind.i64 ↑S.size, Value.bool false, Value.bool false, Value.agg v.cells.toArray, Value.int IntKind.i64 0, Value.bool false, Value.bool false, Value.bool false, Value.int IntKind.i64 t, Value.bool (decide (t < 0)), Value.bool (decide (t < 0)), Value.bool (decide (t < 0)), Value.int IntKind.i64 t, Value.bool (decide (2147483648 < t)), Value.bool (decide (t < 0) || decide (2147483648 < t)), y 0, y 1, y 2, y 3, y 4, y 5, y 6, undef, undef, undef, undef, undef, undef, undef, undef, undef, undef, undef, undef, undef, undef, undef, undef, undef, undef, undef, undef, undef, undef, undef, undef, undef, undef, undef, undef, undef, undef, undef, undef, undef, undef, undef, undef, undef, undef, undef, undef, undef, undef, undef, undef, undef, undef, undef, undef, undef, undef, undef, undef, undef, undef, undef, undef, undef, undef, undef, undef, undef, undef, undef, undef, undef, undef, undef, undef, undef, undef, undef, undef, undef, undef, undef, undef, undef, undef, undef, undef, undef, undef, undef, undef, undef, undef, undef], []⟩) (wtJ v S t s L3 XN w5) ?_ ?_ (fun j => match j with | _ => undef) rfl wtJ.start
  · intro i' o ho L y wx hd hi' hJ
    match i', ho with
    | 0, ho =>
      obtain rfl := Option.some.inj ho
      have h8 := hJ.open8 hi' (by decide)
      obtain ⟨p1, p2⟩ := hJ.pre h8
      exact .inl ⟨rfl, slot_loadK 24 (.tmp 3) rfl ⟨g, 0, none⟩ rfl v.cells _ (K5.out wx hJ.low) Tryz.underlying24 rfl (SZ.out v) ⟨_, rfl, hJ.step hi' (by decide) (Below.refl _ _) rfl (fun hk => by omega)⟩⟩
    | 1, ho =>
      obtain rfl := Option.some.inj ho
      have h8 := hJ.open8 hi' (by decide)
      obtain ⟨p1, p2⟩ := hJ.pre h8
      exact .inl ⟨rfl, slot_run (v := .string S) (w' := wx) rfl ⟨_, rfl, hJ.step hi' (by decide) (Below.refl _ _) rfl (fun hk => by omega)⟩⟩
    | 2, ho =>
      obtain rfl := Option.some.inj ho
      have h8 := hJ.open8 hi' (by decide)
      obtain ⟨p1, p2⟩ := hJ.pre h8
      have y1 : y 1 = .string S := p1 1 (hd ⟨1, .data⟩ (by simp) rfl)
      refine .inl ⟨rfl, ?_⟩
      refine slot_call #[.string S] rfl Tryz.func33 (by kernel_rfl) (by kernel_rfl) (by simp [Act.eval, y1]) ?_
      refine (CTx.out wx).mono ?_
      rintro e w' ⟨rfl, hb⟩
      exact ⟨_, rfl, _, rfl, hJ.step hi' (by decide) hb rfl (fun hk => by omega)⟩
    | 3, ho =>
      obtain rfl := Option.some.inj ho
      have h8 := hJ.open8 hi' (by decide)
      obtain ⟨p1, p2⟩ := hJ.pre h8
      exact .inl ⟨rfl, slot_run (v := .int .i64 t) (w' := wx) rfl ⟨_, rfl, hJ.step hi' (by decide) (Below.refl _ _) rfl (fun hk => by omega)⟩⟩
    | 4, ho =>
      obtain rfl := Option.some.inj ho
      have h8 := hJ.open8 hi' (by decide)
      obtain ⟨p1, p2⟩ := hJ.pre h8
      have y3 : y 3 = .int .i64 t := p1 3 (hd ⟨3, .data⟩ (by simp) rfl)
      refine .inl ⟨rfl, ?_⟩
      refine slot_call #[.int .i64 t] rfl Tryz.func35 (by kernel_rfl) (by kernel_rfl) (by simp [Act.eval, y3]) ?_
      refine (COf.out wx).mono ?_
      rintro e w' ⟨rfl, hb⟩
      exact ⟨_, rfl, _, rfl, hJ.step hi' (by decide) hb rfl (fun hk => by omega)⟩
    | 5, ho =>
      obtain rfl := Option.some.inj ho
      have h8 := hJ.open8 hi' (by decide)
      obtain ⟨p1, p2⟩ := hJ.pre h8
      have y0 : y 0 = .agg v.cells.toArray := p1 0 (hd ⟨0, .data⟩ (by simp) rfl)
      have y2 : y 2 = .agg (txV s).cells.toArray := p1 2 (hd ⟨2, .data⟩ (by simp) rfl)
      have y4 : y 4 = .agg (ofV t).cells.toArray := p1 4 (hd ⟨4, .data⟩ (by simp) rfl)
      have hm := MK3.out wx ((V5.out wx hJ.low).mono hJ.low.size)
      refine .inl ⟨rfl, slot_run (v := .slice (some ⟨wx.heap.size, 0, none⟩) 3 3) (w' := wx.alloc (.cells (vcs L3).toArray 24)) ?_ ⟨_, rfl, hJ.step hi' (by decide) ((Below.refl _ _).alloc (Nat.le_refl _) _) ⟨_, rfl, hm⟩ (fun hk => by omega)⟩⟩
      refine runWithK (fun q => match q with | .tmp 51 => y 0 | .tmp 53 => y 2 | .tmp 55 => y 4 | _ => undef) (by kernel_rfl) ?_
      rw [y0, y2, y4, HL3.out]
      exact bs3_run v (txV s) (ofV t) _ rfl wx
    | 6, ho =>
      obtain rfl := Option.some.inj ho
      have h8 := hJ.open8 hi' (by decide)
      obtain ⟨p1, p2⟩ := hJ.pre h8
      obtain ⟨g5, y5, h5⟩ := p1 5 (hd ⟨5, .data⟩ (by simp) rfl)
      refine .inl ⟨rfl, ?_⟩
      refine slot_call #[.slice (some ⟨g5, 0, none⟩) 3 3] rfl Tryz.func34 (by kernel_rfl) (by kernel_rfl) (by simp [Act.eval, y5]) ?_
      refine (CLs.out wx g5 h5).mono ?_
      rintro e w' ⟨⟨X, rfl, hz, ha, hin⟩, hb⟩
      refine ⟨_, rfl, _, rfl, hJ.step hi' (by decide) hb ⟨X, rfl, hz, ha⟩ fun _ _ h7 => ?_⟩
      rw [upd_ne _ _ (by decide)] at h7
      obtain ⟨g7, e7, hB, hr⟩ := p1 7 h7
      have hlt := lt_of_rowK hr
      exact ⟨X, g7, upd_self _ _ _, by rw [upd_ne _ _ (by decide)]; exact e7, hB, (hb.block g7 hlt).trans hr, hz, ha, hin.imp fun k hk => by omega⟩
    | 7, ho =>
      obtain rfl := Option.some.inj ho
      have h8 := hJ.open8 hi' (by decide)
      obtain ⟨p1, p2⟩ := hJ.pre h8
      have hb : Below wx.heap.size wx (wx.alloc (.cells z4.toArray 24)) := (Below.refl _ _).alloc (Nat.le_refl _) _
      refine .inl ⟨rfl, slot_run (v := .pointer (some ⟨wx.heap.size, 0, none⟩)) (w' := wx.alloc (.cells z4.toArray 24)) (by kernel_rfl) ⟨_, rfl, hJ.step hi' (by decide) hb ⟨_, rfl, hJ.low.size, heap_alloc_new _ _⟩ fun _ h6 _ => ?_⟩⟩
      rw [upd_ne _ _ (by decide)] at h6
      obtain ⟨X, e6, hz, ha⟩ := p1 6 h6
      exact ⟨X, wx.heap.size, by rw [upd_ne _ _ (by decide)]; exact e6, upd_self _ _ _, hJ.low.size, heap_alloc_new _ _, hz, (ha.below hb).mono hb.size, ha.inN.imp fun k hk => by omega⟩
    | 8, ho =>
      obtain rfl := Option.some.inj ho
      obtain ⟨p1, p2⟩ := hJ.pre hi'
      have hall : ∀ j, j < 8 → L j = true := by
        intro j hj
        obtain rfl | rfl | rfl | rfl | rfl | rfl | rfl | rfl : j = 0 ∨ j = 1 ∨ j = 2 ∨ j = 3 ∨ j = 4 ∨ j = 5 ∨ j = 6 ∨ j = 7 := by omega
        · exact hd ⟨0, .phase⟩ (by simp) rfl
        · exact hd ⟨1, .phase⟩ (by simp) rfl
        · exact hd ⟨2, .phase⟩ (by simp) rfl
        · exact hd ⟨3, .phase⟩ (by simp) rfl
        · exact hd ⟨4, .phase⟩ (by simp) rfl
        · exact hd ⟨5, .phase⟩ (by simp) rfl
        · exact hd ⟨6, .phase⟩ (by simp) rfl
        · exact hd ⟨7, .phase⟩ (by simp) rfl
      obtain ⟨X, g7, e6, e7, hB, hr, hz, ha, hn⟩ := p2 (hall 6 (by decide)) (hall 7 (by decide))
      exact .inl ⟨rfl, slot_store 24 (.tmp 9) (.tmp 57) rfl g7 24 z4.toArray X.cells.toArray e7 e6 hr (Tryz.valSize' X) (by with_unfolding_all exact VT.four X) X.cells_one ⟨undef, rfl, hJ.stored hi' hall e6 e7 hB hr hz ha hn⟩⟩
    | k + 9, ho => simp at ho
  · intro L y w9 hall hJ
    obtain ⟨_, X, g9, y6, y7, hB9, hr9, hz9, ha9, hn9⟩ := hJ.post (hall 8 (by decide))
    have R9 := Lib.hid hr9
    have XZ := Lib.hid hz9
    have X9 := Lib.hid (fun (W : World) (h : Below w9.heap.size w9 W) => ha9.below h)
    have K9 := Lib.hid (fun (W : World) (h : Below w9.heap.size w9 W) => rowB (v := X) hr9 h)
    have RL9 := Lib.hid (fun (W : World) (h : Below w9.heap.size w9 W) => (RL5.out.trans (hJ.low.mono RL5.out.size)).trans (h.mono (Nat.le_trans RL5.out.size hJ.low.size)))
    have HT9 := Lib.hid (fun (W : World) (h : Below w9.heap.size w9 W) => CTw.out W (RL9.out W h))
    have G9 := Lib.hid (fun (W : World) (h : Below w9.heap.size w9 W) => ((G.out.on ((B5.out.trans (hJ.low.mono B5.out.size)).trans (h.mono (Nat.le_trans B5.out.size hJ.low.size)))).base ((B5.out.trans (hJ.low.mono B5.out.size)).trans (h.mono (Nat.le_trans B5.out.size hJ.low.size))).size))
    rw [y7]
    clear hr9 hz9 ha9 hn9 hJ hall y6 y7 hB9 CTx COf CLs MK3
    have Kx9 := Lib.hid (K9.out w9 (Below.refl _ _))
    have NUMX := Lib.hid (X9.out w9 (Below.refl _ _)).num
    obtain ⟨F, hF⟩ : ∃ F, F = X.vE := ⟨_, rfl⟩
    have CC9 := vcheck_any X w9.heap.size w9 (X9.out w9 (Below.refl _ _)) (Nat.le_refl _)
    rw [← hF] at CC9
    have HC9 := Lib.hid CC9
    have HF9 := Lib.hid hF
    clear CC9 hF
    go_wp2_with (first
      | (with_reducible show wpList _ _ _ _ _ _; refine wpList_load_allW rfl 24 (.tmp 9) rfl ⟨g9,0,none⟩ rfl X.cells _ Kx9.out Tryz.underlying24 rfl (Tryz.valSize X) ?_))
    refine HC9.out.mono ?_
    rintro e w10 ⟨rfl, hb10⟩
    have B10 := Lib.hid hb10
    have RL10 := Lib.hid (RL9.out w10 hb10)
    have K10 := Lib.hid (K9.out w10 hb10)
    have CE := vencode_any X w9.heap.size w10 (X9.out w10 hb10) hb10.size
    have HCE := Lib.hid CE
    clear hb10 CE HC9
    by_cases hf : ¬ F = 0
    · have hf2 : (F != 0) = true := by simpa using hf
      go_wp2_with fail
      go_ret
      exact ⟨rfl, RL10.out⟩
    have hf0 : F = 0 := Decidable.not_not.1 hf
    clear hf
    subst hf0
    have HVX := Lib.hid (show X.vE = 0 from HF9.out.symm)
    have FX := Lib.hid (fine HVX.out)
    go_wp2_with (first
      | (with_reducible show wpList _ _ _ _ _ _; refine wpList_load_allW rfl 24 (.tmp 9) rfl ⟨g9,0,none⟩ rfl X.cells _ K10.out Tryz.underlying24 rfl (Tryz.valSize X) ?_))
    refine HCE.out.mono ?_
    rintro e w11 ⟨hb11, hP⟩
    rw [HVX.out, if_pos rfl] at hP
    obtain ⟨ao5, c5, rfl, own5⟩ := hP
    obtain ⟨n, hn⟩ : ∃ n, n = X.vb.length := ⟨_, rfl⟩
    rw [← hn] at own5 ⊢
    have HN := Lib.hid hn
    have B11 := Lib.hid (B10.out.trans (hb11.mono B10.out.size))
    have hS := own_Sl own5 hn.symm
    have CD := vdecode_any hS (by have := FX.out.vb; omega)
    rw [dcV_fwd NUMX.out HVX.out, ← HN.out] at CD
    have HCD := Lib.hid CD
    clear own5 hn hS CD hb11 HCE
    go_wp2_with fail
    refine HCD.out.mono ?_
    rintro e w12 ⟨Y, rfl, hYz, hYa, _, hb12⟩
    obtain ⟨w13, hw13⟩ : ∃ bx, bx = w12.alloc (.cells Y.cells.toArray 24) := ⟨_, rfl⟩
    obtain ⟨g13, hg13⟩ : ∃ bx, bx = w12.heap.size := ⟨_, rfl⟩
    have bw13 : Below w12.heap.size w12 w13 := by rw [hw13]; exact (Below.refl _ _).alloc (Nat.le_refl _) _
    have nw13 : w13.heap[g13]? = some (.cells Y.cells.toArray 24 (0, 0)) := by rw [hw13, hg13]; exact heap_alloc_new _ _
    have Kw13 := Lib.hid (rowK nw13)
    have Hw13 := Lib.hid hw13
    have Hg13 := Lib.hid hg13
    have Bw13 := Lib.hid bw13
    have Nw13 := Lib.hid nw13
    clear hw13 hg13 bw13 nw13
    have hYz' : Y.nz = X.nz := hYz
    have B13 := Lib.hid (B11.out.trans ((hb12.trans (Bw13.out.mono hb12.size)).mono B11.out.size))
    have K13 := Lib.hid (rowB (v := Y) Nw13.out (Below.refl _ _))
    have CP := vprint_any Y (by rw [← nz_dpr, hYz', nz_dpr]; exact FX.out.dpr) w13.heap.size w13 ((hYa.below Bw13.out).mono Bw13.out.size) (Nat.le_refl _) (by rw [← nz_pz, hYz', nz_pz]; have := FX.out.pz; omega) (G9.out w13 B13.out).1
    rw [show Y.pv = X.pv by rw [← nz_pv, hYz', nz_pv]] at CP
    obtain ⟨SP, hSP⟩ : ∃ SP, SP = str X.pv := ⟨_, rfl⟩
    rw [← hSP] at CP
    have HSP := Lib.hid hSP
    have HCP := Lib.hid CP
    clear hYz hYz' hYa hb12 CP hSP HCD
    go_wp2_with (first
      | (with_reducible show wpList _ _ _ _ _ _; refine wpList_store_newW rfl 24 (.tmp 12) (.tmp 69) rfl 24 _ Y.cells.toArray rfl rfl (Tryz.valSize' Y) (by with_unfolding_all exact VT.four Y) Y.cells_one ?_; rw [← Hw13.out, ← Hg13.out])
      | (with_reducible show wpList _ _ _ _ _ _; refine wpList_load_allW rfl 24 (.tmp 12) rfl ⟨g13,0,none⟩ rfl Y.cells _ K13.out Tryz.underlying24 rfl (Tryz.valSize Y) ?_))
    refine HCP.out.mono ?_
    rintro e w14 ⟨rfl, hb14⟩
    have B14 := Lib.hid (B13.out.trans (hb14.mono B13.out.size))
    have CZ := vparse_any (w := w14) (l := X.pv) (by have := pv_len X w9.heap.size w9 (X9.out w9 (Below.refl _ _)); have := FX.out.pz; omega) (G9.out w14 B14.out)
    rw [prV_fwd NUMX.out HVX.out, ← HSP.out] at CZ
    have HCZ := Lib.hid CZ
    clear hb14 CZ HCP
    go_wp2_with fail
    refine HCZ.out.mono ?_
    rintro e w15 ⟨Z, rfl, hZz, hZa, _, hb15⟩
    obtain ⟨w16, hw16⟩ : ∃ bx, bx = w15.alloc (.cells Z.cells.toArray 24) := ⟨_, rfl⟩
    obtain ⟨g16, hg16⟩ : ∃ bx, bx = w15.heap.size := ⟨_, rfl⟩
    have bw16 : Below w15.heap.size w15 w16 := by rw [hw16]; exact (Below.refl _ _).alloc (Nat.le_refl _) _
    have nw16 : w16.heap[g16]? = some (.cells Z.cells.toArray 24 (0, 0)) := by rw [hw16, hg16]; exact heap_alloc_new _ _
    have Kw16 := Lib.hid (rowK nw16)
    have Hw16 := Lib.hid hw16
    have Hg16 := Lib.hid hg16
    have Bw16 := Lib.hid bw16
    have Nw16 := Lib.hid nw16
    clear hw16 hg16 bw16 nw16
    have hZz' : Z.nz = X.nz := hZz
    have B16 := Lib.hid (B14.out.trans ((hb15.trans (Bw16.out.mono hb15.size)).mono B14.out.size))
    have KZ := Lib.hid (fun (W : World) (h : Below w16.heap.size w16 W) => rowB (v := Z) Nw16.out h)
    have KZ16 := Lib.hid (KZ.out w16 (Below.refl _ _))
    have KX16 := Lib.hid (K9.out w16 B16.out)
    have AZ := Lib.hid ((hZa.below Bw16.out).mono Bw16.out.size)
    have CS := vsame_any X Z FX.out.dpr w16.heap.size w16 ((X9.out w16 B16.out).mono B16.out.size) AZ.out (Nat.le_refl _)
    rw [(cmp_zero X FX.out.kin Z).2 hZz'.symm] at CS
    have HCS := Lib.hid CS
    have HZZ := Lib.hid (hZz'.trans XZ.out)
    clear hZz hZz' hZa hb15 CS HCZ
    go_wp2_with (first
      | (with_reducible show wpList _ _ _ _ _ _; refine wpList_store_newW rfl 24 (.tmp 14) (.tmp 75) rfl 24 _ Z.cells.toArray rfl rfl (Tryz.valSize' Z) (by with_unfolding_all exact VT.four Z) Z.cells_one ?_; rw [← Hw16.out, ← Hg16.out])
      | (with_reducible show wpList _ _ _ _ _ _; refine wpList_loadWanted (by with_unfolding_all rfl) 24 (.tmp 9) rfl ⟨g9,0,none⟩ (by with_unfolding_all rfl) X.cells _ KX16.out Tryz.underlying24 rfl (Tryz.valSize X) ?_)
      | (with_reducible show wpList _ _ _ _ _ _; refine wpList_loadWanted (by with_unfolding_all rfl) 24 (.tmp 14) rfl ⟨g16,0,none⟩ (by with_unfolding_all rfl) Z.cells _ KZ16.out Tryz.underlying24 rfl (Tryz.valSize Z) ?_))
    refine HCS.out.mono ?_
    rintro e w17 ⟨rfl, hb17⟩
    have B17 := Lib.hid (B16.out.trans (hb17.mono B16.out.size))
    have HB17 := Lib.hid hb17
    have hZ3 := HZZ.out
    rw [HXN.out, HL3.out] at hZ3
    obtain ⟨ad, zc, z3, hadb, zS, zN⟩ := three_inv hZ3 (AZ.out.below hb17)
    have C3 := Lib.hid (fun (W : World) (h : Below w17.heap.size w17 W) => show W.cell? ⟨g16, 3, none⟩ = some (.slice (some ad) 3 zc) from by
      have h1 := KZ.out W (hb17.trans (h.mono hb17.size)) 3 _ z3
      rwa [Addr.add_mid] at h1)
    have hadl : ad.block < w17.heap.size := Nat.lt_of_lt_of_le hadb hb17.size
    have CS2 := Lib.hid (fun (W : World) (h : Below w17.heap.size w17 W) => show W.cell? ⟨ad.block, ad.off + 4 + 2, none⟩ = some (.string S) from by
      show W.cell? ((ad.add 4).add 2) = some (.string S)
      rw [h.cell (by rw [addr_blockK, addr_blockK]; exact hadl), zS, ← HS.out])
    have CN2 := Lib.hid (fun (W : World) (h : Below w17.heap.size w17 W) => show W.cell? ⟨ad.block, ad.off + 8 + 1, none⟩ = some (.int .i64 t) from by
      show W.cell? ((ad.add 8).add 1) = some (.int .i64 t)
      rw [h.cell (by rw [addr_blockK, addr_blockK]; exact hadl), zN])
    have HT17 := Lib.hid (fun (W : World) (h : Below w17.heap.size w17 W) => HT9.out W (B17.out.trans (h.mono B17.out.size)))
    have RL17 := Lib.hid (fun (W : World) (h : Below w17.heap.size w17 W) => RL9.out W (B17.out.trans (h.mono B17.out.size)))
    have CA := Lib.hid (fun (W : World) (h : Below w17.heap.size w17 W) => show Calls Tryz.prog 42 #[.string S] W (Cr.parsePost W s (Cr.parseM s)) from by
      rw [HS.out]; exact Cr.parse_any s (by omega) W (HT17.out W h))
    obtain ⟨R, D, hRD⟩ : ∃ R D, Cr.parseM s = (R, D) := ⟨_, _, rfl⟩
    rw [hRD] at CA
    clear hb17 hZ3 z3 hadb zS zN hadl hRD HCS
    by_cases hr : R = 0
    · subst hr
      have CA0 := Lib.hid (fun (W : World) (h : Below w17.heap.size w17 W) => show Calls Tryz.prog 42 #[.string S] W fun e w' => ∃ gc, e = .returned (.tuple #[.pointer (some ⟨gc, 0, none⟩), .int .i64 0]) ∧ Cr.SpecAt w' gc s D ∧ Below w17.heap.size w17 w' ∧ Below W.heap.size W w' from by
        refine (CA.out W h).mono ?_
        rintro e w' ⟨hb, hP⟩
        rw [if_pos rfl] at hP
        obtain ⟨gc, he, _, hsp⟩ := hP
        exact ⟨gc, he, hsp, h.trans (hb.mono h.size), hb⟩)
      obtain ⟨TA, TB, hV⟩ : ∃ TA TB, Cr.nextV D t = .tuple #[.int .i64 TA, .int .i64 TB] := by
        unfold Cr.nextV
        split
        · exact ⟨_, _, rfl⟩
        · split
          · exact ⟨_, _, rfl⟩
          · exact ⟨_, _, rfl⟩
      have CNx := Lib.hid (fun (W : World) (gc : Nat) (h : Below w17.heap.size w17 W) (hs : Cr.SpecAt W gc s D) => show Calls Tryz.prog 43 #[.pointer (some ⟨gc, 0, none⟩), .int .i64 t] W fun e w' => e = .returned (.tuple #[.int .i64 TA, .int .i64 TB]) ∧ Below W.heap.size W w' from by
        rw [← hV]; exact Cr.next_any gc s D t ht W (HT17.out W h) hs)
      have CTe := Lib.hid (fun (W : World) (gc : Nat) (hs : Cr.SpecAt W gc s D) => show Calls Tryz.prog 44 #[.pointer (some ⟨gc, 0, none⟩)] W fun e w' => e = .returned (.string S) ∧ w' = W from by
        rw [HS.out]; exact Cr.text_any gc s D W hs)
      clear CA hV
      have HC0 := Lib.hid (CA0.out w17 (Below.refl _ _))
      go_wp2_with fail
      refine HC0.out.mono ?_
      rintro e w18 ⟨gc, rfl, hs18, hb18, _⟩
      have S18 := Lib.hid hs18
      have B18 := Lib.hid hb18
      have HC1 := Lib.hid (CA0.out w18 hb18)
      have c3 := C3.out w18 hb18
      have c4 := CS2.out w18 hb18
      clear hs18 hb18 HC0
      go_wp2_with fail
      refine HC1.out.mono ?_
      rintro e w19 ⟨gd, rfl, hs19, hb19, hb1819⟩
      have B19 := Lib.hid (show Below w18.heap.size w18 w19 from hb1819)
      have S19 := Lib.hid hs19
      have B1719 := Lib.hid hb19
      have S19c := Lib.hid (S18.out.below B19.out)
      have HN0 := Lib.hid (CNx.out w19 gc hb19 S19c.out)
      clear hs19 hb19 hb1819 HC1 c3 c4
      go_wp2_with fail
      refine HN0.out.mono ?_
      rintro e w20 ⟨rfl, hb20⟩
      have B20 := Lib.hid (B1719.out.trans (hb20.mono B1719.out.size))
      have S20c := Lib.hid (S19c.out.below hb20)
      have S20d := Lib.hid (S19.out.below hb20)
      have HN1 := Lib.hid (CNx.out w20 gd B20.out S20d.out)
      have c3 := C3.out w20 B20.out
      have c4 := CN2.out w20 B20.out
      clear hb20 HN0
      go_wp2_with fail
      refine HN1.out.mono ?_
      rintro e w21 ⟨rfl, hb21⟩
      have RL21 := Lib.hid (RL17.out w21 (B20.out.trans (hb21.mono B20.out.size)))
      have HT0 := Lib.hid (CTe.out w21 gc (S20c.out.below hb21))
      have HT1 := Lib.hid (CTe.out w21 gd (S20d.out.below hb21))
      clear hb21 HN1 c3 c4
      go_wp2_with fail
      refine HT0.out.mono ?_
      rintro e w22 ⟨rfl, rfl⟩
      go_wp2_with fail
      refine HT1.out.mono ?_
      rintro e w23 ⟨rfl, rfl⟩
      go_wp2_with fail
      go_ret
      exact ⟨rfl, RL21.out⟩
    · have hr2 : (R != 0) = true := by simpa using hr
      have CA0 := Lib.hid (fun (W : World) (h : Below w17.heap.size w17 W) => show Calls Tryz.prog 42 #[.string S] W fun e w' => e = .returned (.tuple #[.pointer none, .int .i64 R]) ∧ Below w17.heap.size w17 w' from by
        refine (CA.out W h).mono ?_
        rintro e w' ⟨hb, hP⟩
        rw [if_neg hr] at hP
        exact ⟨hP, h.trans (hb.mono h.size)⟩)
      clear CA
      have HC0 := Lib.hid (CA0.out w17 (Below.refl _ _))
      go_wp2_with fail
      refine HC0.out.mono ?_
      rintro e w18 ⟨rfl, hb18⟩
      have HC1 := Lib.hid (CA0.out w18 hb18)
      have c3 := C3.out w18 hb18
      have c4 := CS2.out w18 hb18
      clear hb18 HC0
      go_wp2_with fail
      refine HC1.out.mono ?_
      rintro e w19 ⟨rfl, hb19⟩
      have RL19 := Lib.hid (RL17.out w19 hb19)
      clear hb19 c3 c4
      go_wp2_with fail
      go_ret
      exact ⟨rfl, RL19.out⟩
end Go.Proofs.YthfjahagmfgfeaaGreatDoor.Wi
