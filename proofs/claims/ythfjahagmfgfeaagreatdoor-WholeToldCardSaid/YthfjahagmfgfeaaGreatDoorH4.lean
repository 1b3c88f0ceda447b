/- The walk of ValuePrints. -/
import Derived.Test.YthfjahagmfgfeaaGreatDoorGE
namespace Go.Proofs.YthfjahagmfgfeaaGreatDoor.Wi
open Go Go.RowKit
set_option linter.unusedVariables false
set_option linter.unusedSimpArgs false
theorem vcs_one1 (v : VT) : vcs [v] = v.cells := by simp [vcs]
/-- A list of one value that came in: what fits says of it. -/
theorem fits_one {v : VT} {w : World} (hv : v.At w.heap.size w) : Calls Tryz.prog 13 #[.slice (some ⟨w.heap.size, 0, none⟩) 1 1] (w.alloc (.cells v.cells.toArray 24)) fun e w' => AnB e ∧ Below w.heap.size w w' := by
  have hl := list_new (w := w) (l := [v]) (c := 1) (by simp) (fun x hx => by rw [List.mem_singleton.1 hx]; exact hv)
  rw [vcs_one1] at hl
  have hb : Below w.heap.size w (w.alloc (.cells v.cells.toArray 24)) := (Below.refl _ _).alloc (Nat.le_refl _) _
  refine (fits_any (some ⟨w.heap.size, 0, none⟩) 1 [v] _ _ hl (Nat.le_refl _)).mono ?_
  rintro e w' ⟨h1, h2⟩
  exact ⟨h1, hb.trans (h2.mono hb.size)⟩
set_option maxHeartbeats 8000000 in
set_option maxRecDepth 100000 in
theorem prints_any (v : VT) (w : World) (hv : v.At w.heap.size w) (hg : GB w.heap.size w) : Calls Tryz.prog 7 #[.agg v.cells.toArray] w fun e w' => e = .returned (.bool true) ∧ Below w.heap.size w w' := by
  obtain ⟨w1, hw1⟩ : ∃ bx, bx = w.alloc (.cells v.cells.toArray 24) := ⟨_, rfl⟩
  obtain ⟨g, hg⟩ : ∃ bx, bx = w.heap.size := ⟨_, rfl⟩
  have bw1 : Below w.heap.size w w1 := by rw [hw1]; exact (Below.refl _ _).alloc (Nat.le_refl _) _
  have nw1 : w1.heap[g]? = some (.cells v.cells.toArray 24 (0, 0)) := by rw [hw1, hg]; exact heap_alloc_new _ _
  have Kw1 := Lib.hid (rowK nw1)
  have Hw1 := Lib.hid hw1
  have Hg := Lib.hid hg
  have Bw1 := Lib.hid bw1
  have Nw1 := Lib.hid nw1
  clear hw1 hg bw1 nw1
  have HV := Lib.hid ((hv.below Bw1.out).mono Bw1.out.size)
  have G := Lib.hid ((hg.on Bw1.out).base Bw1.out.size)
  have CH := Lib.hid (holds_any w1 G.out)
  clear hv hg
  go_enter Tryz.func7, Tryz.ntmps7
  go_upto_region 1 with fail
  rw [← Hw1.out, ← Hg.out]
  go_wp2_with fail
  refine CH.out.mono ?_
  rintro e w2 ⟨rfl, hb2⟩
  have Kw2 := Lib.hid (rowB (v := v) Nw1.out hb2)
  have hl4 := v.cells_len
  have CF := Lib.hid (fits_one ((HV.out.below hb2).mono hb2.size))
  go_wp2_with (first | (with_reducible show wpList _ _ _ _ _ _; refine wpList_load_allW rfl 24 (.tmp 1) rfl ⟨g,0,none⟩ rfl v.cells _ Kw2.out Tryz.underlying24 rfl (Tryz.valSize v) ?_))
  clear hl4
  rw [bs1]
  refine CF.out.mono ?_
  rintro e w3 ⟨⟨b, rfl⟩, hb3⟩
  have hb13 := hb2.trans (hb3.mono hb2.size)
  have RL3 := Lib.hid (Bw1.out.trans (hb13.mono Bw1.out.size))
  cases b
  · clear hb2 hb3 hb13
    go_wp2_with fail
    go_ret
    exact ⟨rfl, RL3.out⟩
  have Kw3 := Lib.hid (rowB (v := v) Nw1.out hb13)
  have CG := Lib.hid (good_any v w1.heap.size w3 (HV.out.below hb13) hb13.size)
  obtain ⟨E, hE⟩ : ∃ E, E = decide (v.vE = 0) := ⟨_, rfl⟩
  rw [← hE] at CG
  have HE := Lib.hid hE
  clear hE
  go_wp2_with (first | (with_reducible show wpList _ _ _ _ _ _; refine wpList_loadWanted (by with_unfolding_all rfl) 24 (.tmp 1) rfl ⟨g,0,none⟩ (by with_unfolding_all rfl) v.cells _ Kw3.out Tryz.underlying24 rfl (Tryz.valSize v) ?_))
  refine CG.out.mono ?_
  rintro e w4 ⟨rfl, hb4⟩
  have hb14 := hb13.trans (hb4.mono hb13.size)
  have RL4 := Lib.hid (Bw1.out.trans (hb14.mono Bw1.out.size))
  cases E
  · clear hb2 hb3 hb13 hb4 hb14
    go_wp2_with fail
    go_ret
    exact ⟨rfl, RL4.out⟩
  have HVE := Lib.hid (of_decide_eq_true HE.out.symm)
  have HF := Lib.hid (fine HVE.out)
  have G4 := Lib.hid ((G.out.on hb14).base hb14.size)
  have HV4 := Lib.hid ((HV.out.below hb14).mono hb14.size)
  have Kw4 := Lib.hid (fun (W : World) (h : Below w4.heap.size w4 W) => rowB (v := v) Nw1.out (hb14.trans (h.mono hb14.size)))
  have CP := vprint_any v HF.out.dpr w4.heap.size w4 HV4.out (Nat.le_refl _) (by have := HF.out.pz; omega) G4.out.1
  obtain ⟨P, hP⟩ : ∃ P, P = v.pv := ⟨_, rfl⟩
  rw [← hP] at CP
  obtain ⟨T, hT⟩ : ∃ T, T = str P := ⟨_, rfl⟩
  rw [← hT] at CP
  have HCP := Lib.hid CP
  have HP := Lib.hid hP
  have HT := Lib.hid hT
  have hPl : P.length + 5 ≤ 270080 := by have h1 := pv_len v w4.heap.size w4 HV4.out; have h2 := HF.out.pz; rw [← hP] at h1; omega
  have HPl := Lib.hid hPl
  clear hb2 hb3 hb13 hb4 hb14 hP hT CP hPl CF CG CH G HE RL3 HV
  have Kw4a := Lib.hid (Kw4.out w4 (Below.refl _ _))
  go_wp2_with (first | (with_reducible show wpList _ _ _ _ _ _; refine wpList_load_allW rfl 24 (.tmp 1) rfl ⟨g,0,none⟩ rfl v.cells _ Kw4a.out Tryz.underlying24 rfl (Tryz.valSize v) ?_))
  refine HCP.out.mono ?_
  rintro e w5 ⟨rfl, hb5⟩
  have CQ := vparse_any (w := w5) (l := P) (by have := HPl.out; omega) ((G4.out.on hb5).base hb5.size)
  rw [← HT.out, HP.out, prV_fwd HV4.out.num HVE.out] at CQ
  have HCQ := Lib.hid CQ
  clear CQ
  go_wp2_with fail
  refine HCQ.out.mono ?_
  rintro e w6 ⟨U, rfl, hUz, hUa, _, hb6⟩
  obtain ⟨w7, hw7⟩ : ∃ bx, bx = w6.alloc (.cells U.cells.toArray 24) := ⟨_, rfl⟩
  obtain ⟨g7, hg7⟩ : ∃ bx, bx = w6.heap.size := ⟨_, rfl⟩
  have bw7 : Below w6.heap.size w6 w7 := by rw [hw7]; exact (Below.refl _ _).alloc (Nat.le_refl _) _
  have nw7 : w7.heap[g7]? = some (.cells U.cells.toArray 24 (0, 0)) := by rw [hw7, hg7]; exact heap_alloc_new _ _
  have Kw7 := Lib.hid (rowK nw7)
  have Hw7 := Lib.hid hw7
  have Hg7 := Lib.hid hg7
  have Bw7 := Lib.hid bw7
  have Nw7 := Lib.hid nw7
  clear hw7 hg7 bw7 nw7
  have hb47 : Below w4.heap.size w4 w7 := hb5.trans ((hb6.mono hb5.size).trans (Bw7.out.mono (Nat.le_trans hb5.size hb6.size)))
  have RLF := Lib.hid (fun (W : World) (h : Below w7.heap.size w7 W) => (RL4.out.trans (hb47.mono RL4.out.size)).trans (h.mono (Nat.le_trans RL4.out.size hb47.size)))
  have KV := Lib.hid (fun (W : World) (h : Below w7.heap.size w7 W) => Kw4.out W (hb47.trans (h.mono hb47.size)))
  have KU := Lib.hid (fun (W : World) (h : Below w7.heap.size w7 W) => rowB (v := U) Nw7.out h)
  have RP := Lib.hid (fun (W : World) (h : Below w7.heap.size w7 W) => show Calls Tryz.prog 30 #[.agg v.cells.toArray] W fun e w' => e = .returned (.string T) ∧ Below W.heap.size W w' from by
    have hb := hb47.trans (h.mono hb47.size)
    have h1 := rprint_any v w4.heap.size W (HV4.out.below hb) hb.size (by have := HF.out.pz; omega)
    unfold StrI at h1
    rw [← HP.out, ← HT.out] at h1
    exact h1)
  have SU := Lib.hid (fun (W : World) (h : Below w7.heap.size w7 W) => show Calls Tryz.prog 19 #[.agg U.cells.toArray, .agg v.cells.toArray] W fun e w' => e = .returned (.bool true) ∧ Below W.heap.size W w' from by
    have hb := hb47.trans (h.mono hb47.size)
    have hz : U.nz = v.nz := hUz
    have h1 := vsame_any U v (by rw [← nz_dpr, hz, nz_dpr]; exact HF.out.dpr) w7.heap.size W ((hUa.below (Bw7.out.trans (h.mono Bw7.out.size))).mono Bw7.out.size) ((HV4.out.below hb).mono hb47.size) h.size
    have hc : U.cmp v = 0 := by rw [← nz_cmpL U, hz, nz_cmpL]; exact cmp_self v HF.out.kin
    rw [hc] at h1
    exact h1)
  obtain ⟨Q, hQ⟩ : ∃ Q, Q = str (qt P) := ⟨_, rfl⟩
  have VQ := Lib.hid (fun (W : World) => show Calls Tryz.prog 31 #[.string T] W fun e w' => e = .returned (.string Q) ∧ Below W.heap.size W w' from by
    have h1 := vquote_any P W (by have := HPl.out; omega)
    rw [← HT.out, ← hQ] at h1
    exact h1)
  have RQ := Lib.hid (fun (W : World) => show Calls Tryz.prog 32 #[.string T] W fun e w' => e = .returned (.string Q) ∧ Below W.heap.size W w' from by
    have h1 := rquote_any P (by have := HPl.out; omega) W
    rw [← HT.out, ← hQ] at h1
    exact h1)
  clear hQ hUz hUa hb5 hb6 hb47 HV4 HF HVE G4 HCP HCQ HT HP HPl Kw4
  have KVa := Lib.hid (KV.out w7 (Below.refl _ _))
  go_wp2_with (first
    | (with_reducible show wpList _ _ _ _ _ _; refine wpList_store_newW rfl 24 (.tmp 4) (.tmp 22) rfl 24 _ U.cells.toArray rfl rfl (Tryz.valSize' U) (by with_unfolding_all exact VT.four U) U.cells_one ?_; rw [← Hw7.out, ← Hg7.out])
    | (with_reducible show wpList _ _ _ _ _ _; refine wpList_load_allW rfl 24 (.tmp 1) rfl ⟨g,0,none⟩ rfl v.cells _ KVa.out Tryz.underlying24 rfl (Tryz.valSize v) ?_))
  refine (RP.out w7 (Below.refl _ _)).mono ?_
  rintro e x1 ⟨rfl, hx1⟩
  have KVb := Lib.hid (KV.out x1 hx1)
  have KUb := Lib.hid (KU.out x1 hx1)
  go_wp2_with (first
    | (with_reducible show wpList _ _ _ _ _ _; refine wpList_loadWanted (by with_unfolding_all rfl) 24 (.tmp 4) rfl ⟨g7,0,none⟩ (by with_unfolding_all rfl) U.cells _ KUb.out Tryz.underlying24 rfl (Tryz.valSize U) ?_)
    | (with_reducible show wpList _ _ _ _ _ _; refine wpList_loadWanted (by with_unfolding_all rfl) 24 (.tmp 1) rfl ⟨g,0,none⟩ (by with_unfolding_all rfl) v.cells _ KVb.out Tryz.underlying24 rfl (Tryz.valSize v) ?_))
  refine (SU.out x1 hx1).mono ?_
  rintro e x2 ⟨rfl, hx12⟩
  have hx2 := hx1.trans (hx12.mono hx1.size)
  clear hx12 hx1
  go_wp2_with fail
  refine (VQ.out x2).mono ?_
  rintro e x3 ⟨rfl, hx23⟩
  have hx3 := hx2.trans (hx23.mono hx2.size)
  clear hx23 hx2
  go_wp2_with fail
  refine (RQ.out x3).mono ?_
  rintro e x4 ⟨rfl, hx34⟩
  have hx4 := hx3.trans (hx34.mono hx3.size)
  clear hx34 hx3
  go_wp2_with fail
  go_ret
  exact ⟨rfl, RLF.out x4 hx4⟩
end Go.Proofs.YthfjahagmfgfeaaGreatDoor.Wi
