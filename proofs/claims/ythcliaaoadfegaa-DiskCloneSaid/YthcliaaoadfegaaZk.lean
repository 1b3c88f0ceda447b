/- The law DiskClone: its walk. -/
import Derived.Test.YthcliaaoadfegaaZl
import Derived.Test.YthcliaaoadfegaaCl2
namespace Go.Proofs.Ythcliaaoadfegaa.Dk
open Go Go.RowKit
set_option linter.unusedVariables false
set_option linter.unusedSimpArgs false
def CsRel (T : Nat → Prop) (w : World) (d g m k7 N : Nat) (u : Value) (wr : World) : Prop :=
  ∃ (j n : Nat) (x : DS) (v : RV) (W : List (Int × List UInt8)), u = .int .i64 (j : Int) ∧ j ≤ N ∧ n ≤ j ∧ W.length ≤ j ∧ PSt T w wr d g m k7 n x v W ∧ x.s.length = 4
/-- What of the first disk stays while the second is played on. -/
structure Stay (T : Nat → Prop) (wr : World) (d g m k7 n : Nat) (x : DS) (v : RV) (W : List (Int × List UInt8)) : Prop where
  D : DiskAt Try.prog wr d g m n x
  R : RVB wr k7 v
  V : RVOf T wr v x W
theorem Stay.frame {T U : Nat → Prop} {w w' : World} {d g m k7 n : Nat} {x : DS} {v : RV} {W : List (Int × List UInt8)} (h : Stay T w d g m k7 n x v W) (f : Frm U w w') (h1 : ∀ k, own3 d g m k ∨ k = k7 → ¬ U k) (h2 : ∀ k, U k → T k) : Stay T w' d g m k7 n x v W :=
  ⟨h.D.frame f (h1 d (.inl (.inl rfl))) (h1 g (.inl (.inr (.inl rfl)))) (h1 m (.inl (.inr (.inr rfl)))), h.R.frame f (h1 k7 (.inr rfl)), h.V.frame f (fun k _ e => h2 k e)⟩
def C2Rel (T : Nat → Prop) (w : World) (d g m k7 n0 : Nat) (x0 : DS) (v0 : RV) (W0 : List (Int × List UInt8)) (d2 g2 m2 k11 M N : Nat) (u : Value) (wr : World) : Prop :=
  ∃ (j n : Nat) (x : DS) (v : RV) (W : List (Int × List UInt8)), u = .int .i64 (j : Int) ∧ j ≤ N ∧ n ≤ M + j ∧ W.length ≤ M + j ∧ PSt T w wr d2 g2 m2 k11 n x v W ∧ Stay T wr d g m k7 n0 x0 v0 W0
set_option maxRecDepth 100000 in
set_option maxHeartbeats 6400000 in
theorem clone_law (a1 : Option Addr) (c1 : Nat) (L1 : List OpD) (a2 : Option Addr) (c2 : Nat) (L2 : List OpD) (w : World) (hO1 : Ops w (.slice a1 L1.length c1) L1) (hl1 : L1.length ≤ 9223372036854775807) (hO2 : Ops w (.slice a2 L2.length c2) L2) (hl2 : L2.length ≤ 9223372036854775807) :
    Calls Try.prog 4 #[.slice a1 L1.length c1, .slice a2 L2.length c2] w fun e w' => e = .returned (.bool true) ∧ Below w.heap.size w w' := by
  have FT1 := Lib.hid (fun W h => fits_any a1 c1 L1 W h hl1)
  have FT2 := Lib.hid (fun W h => fits_any a2 c2 L2 W h hl2)
  have HO1 := Lib.hid hO1
  have HO2 := Lib.hid hO2
  clear hO1 hO2
  cases hf1 : fitsB L1 with
  | false =>
    rw [hf1] at FT1
    clear hf1
    go_enter Try.func4, Try.ntmps4
    go_wp2_with fail
    refine (works_any w).mono ?_
    rintro e w0 ⟨rfl, hB0⟩
    have HB0 := Lib.hid hB0
    clear hB0
    go_wp2_with fail
    refine (FT1.out w0 (HO1.out.below HB0.out (Nat.le_refl _))).mono ?_
    rintro e w1 ⟨rfl, hB1⟩
    have HB1 := Lib.hid (HB0.out.trans (hB1.mono HB0.out.size))
    clear hB1 FT1 HB0
    go_wp2_with fail
    go_ret
    exact ⟨rfl, HB1.out⟩
  | true =>
    rw [hf1] at FT1
    have h30 : L1.length ≤ 30 := by simp [fitsB] at hf1; exact hf1.1
    have HF1 := Lib.hid (show ∀ p ∈ L1, OpD.fits p = true from by
      unfold fitsB at hf1
      simp only [Bool.and_eq_true, List.all_eq_true] at hf1
      exact hf1.2)
    clear hf1
    go_enter Try.func4, Try.ntmps4
    go_wp2_with fail
    refine (works_any w).mono ?_
    rintro e w0 ⟨rfl, hB0⟩
    have HB0 := Lib.hid hB0
    clear hB0
    go_wp2_with fail
    refine (FT1.out w0 (HO1.out.below HB0.out (Nat.le_refl _))).mono ?_
    rintro e w1 ⟨rfl, hB1⟩
    have HB1 := Lib.hid (HB0.out.trans (hB1.mono HB0.out.size))
    have F2 := Lib.hid (FT2.out w1 (HO2.out.below HB1.out (Nat.le_refl _)))
    clear hB1 FT1 HB0 FT2
    cases hf2 : fitsB L2 with
    | false =>
      rw [hf2] at F2
      clear hf2
      go_wp2_with fail
      refine F2.out.mono ?_
      rintro e w2 ⟨rfl, hB2⟩
      have HB2 := Lib.hid (HB1.out.trans (hB2.mono HB1.out.size))
      clear hB2 F2
      go_wp2_with fail
      go_ret
      exact ⟨rfl, HB2.out⟩
    | true =>
      rw [hf2] at F2
      have h302 : L2.length ≤ 30 := by simp [fitsB] at hf2; exact hf2.1
      have HF2 := Lib.hid (show ∀ p ∈ L2, OpD.fits p = true from by
        unfold fitsB at hf2
        simp only [Bool.and_eq_true, List.all_eq_true] at hf2
        exact hf2.2)
      clear hf2
      go_wp2_with fail
      refine F2.out.mono ?_
      rintro e w1' ⟨rfl, hB1'⟩
      have HB1' := Lib.hid (HB1.out.trans (hB1'.mono HB1.out.size))
      clear hB1' F2
      go_wp2_with fail
      refine (new_any 4 (by decide) (by decide) w1').mono ?_
      rintro e w2 ⟨d, g, m, rfl, hD2, hb2, hd, hg, hm⟩
      have HB2 := Lib.hid (HB1'.out.trans (hb2.mono HB1'.out.size))
      have HD2 := Lib.hid hD2
      have HOW := Lib.hid (show ∀ k, own3 d g m k → w.heap.size ≤ k ∧ k < w2.heap.size from fun k h => by
        have := HB1'.out.size
        have h1 := hD2.dlt
        have h2 := hD2.glt
        have h3 := hD2.mlt
        rcases h with h | h | h <;> omega)
      have RN := Lib.hid (r5New_any (T := own3 d g m) 4 (by decide) w2 (fun k hk => (HOW.out k hk).2))
      clear hD2 hb2 hd hg hm HB1 HB1'
      go_wp2_with fail
      refine RN.out.mono ?_
      rintro e w3 ⟨v, rfl, hV, hb3⟩
      obtain ⟨k7, hk7⟩ : ∃ k7, k7 = w3.heap.size := ⟨_, rfl⟩
      obtain ⟨w4, hw4⟩ : ∃ w4, w4 = w3.alloc (.cells v.cells.toArray 32) := ⟨_, rfl⟩
      have hb4 : Below w3.heap.size w3 w4 := by rw [hw4]; exact (Below.refl _ _).alloc (Nat.le_refl _) _
      obtain ⟨T, hT⟩ : ∃ T : Nat → Prop, T = fun k => own3 d g m k ∨ k = k7 := ⟨_, rfl⟩
      have hb24 := hb3.trans (hb4.mono hb3.size)
      have ST := Lib.hid (show PSt T w w4 d g m k7 0 (DS.new 4) v [] from by
        refine ⟨HD2.out.below hb24 (Nat.le_refl _), by rw [hw4, hk7]; exact heap_alloc_new _ _, ((hV.more (fun k hk e => ?_)).below hb4 (Nat.le_refl _)), Link.new 4, HB2.out.trans (hb24.mono HB2.out.size), fun k hk => ?_, fun k hk => ?_, ?_⟩
        · rw [hT] at e
          rcases e with e | e
          · exact e
          · omega
        · rw [hT] at hk
          have h1 := hb3.size
          have h2 := HB2.out.size
          have h3 : w4.heap.size = w3.heap.size + 1 := by rw [hw4]; exact Array.size_push _
          rcases hk with e | e
          · have := HOW.out k e; omega
          · omega
        · have := HOW.out k hk
          have h1 := hb3.size
          rw [hT]
          exact ⟨.inl hk, by omega⟩
        · rw [hT]; exact .inr rfl)
      have HTE := Lib.hid (show ∀ k, T k → own3 d g m k ∨ k = k7 from fun k hk => by rw [hT] at hk; exact hk)
      have P0 := Lib.hid (show CsRel T w d g m k7 L1.length (.int .i64 0) w4 from ⟨0, 0, DS.new 4, v, [], rfl, Nat.zero_le _, Nat.le_refl _, Nat.le_refl _, ST.out, by simp [DS.new]⟩)
      have HW4 := Lib.hid hw4
      have HK7 := Lib.hid hk7
      have HSV := Lib.hid (Try.r5Size' v)
      clear hb3 hb4 hb24 hw4 hk7 hT hV ST RN
      go_upto_region 9 with (with_reducible show wpList _ _ _ _ _ _; refine wpList_store_new rfl 32 (.tmp 7) (.tmp 31) rfl 32 _ v.cells.toArray rfl rfl HSV.out rfl v.cells_one ?_)
      rw [← HW4.out, ← HK7.out]
      go_wp2_with fail
      go_loopw [34] (fun u wr => CsRel T w d g m k7 L1.length u wr) (fun u _ => L1.length - (intOf u).toNat)
      case atStart => exact P0.out
      case round =>
        obtain ⟨wq, rfl⟩ : ∃ wq : World, wq = wr := ⟨_, rfl⟩
        obtain ⟨j, n, x, v, W, rfl, hj, hn, hW, hst, h4⟩ := hrel
        have HST := Lib.hid hst
        have H4 := Lib.hid h4
        clear hst P0 h4
        by_cases hjl : j < L1.length
        · have hjj : (j : Int) < (L1.length : Int) := by omega
          obtain ⟨a, rfl, hcell, hg⟩ := HO1.out.at hjl
          obtain ⟨p, hp⟩ : ∃ p, p = L1.getD j default := ⟨_, rfl⟩
          have hpf : p.fits = true := by rw [hp]; exact HF1.out _ (by simp [List.getD, hjl])
          rw [← hp] at hcell hg
          have HC := Lib.hid (show ∀ i v, p.cells[i]? = some v → wq.cell? ((a.add (j * 7)).add i) = some v from fun i v hv => by
            have h := hcell i v hv
            rw [HST.out.be.cell (World.block_lt_of_cell? w _ h)]
            exact h)
          have HZ := Lib.hid (Try.opSize p)
          have HZ' := Lib.hid (show (Try.prog.info? 37).map (·.size) = some p.cells.toArray.size by rw [List.size_toArray]; exact Try.opSize p)
          have HO1' := Lib.hid p.cells_one
          obtain ⟨wv, hwv⟩ : ∃ wv, wv = wq.alloc (.cells p.cells.toArray 37) := ⟨_, rfl⟩
          obtain ⟨k9, hk9⟩ : ∃ k9, k9 = wq.heap.size := ⟨_, rfl⟩
          have hbv : Below wq.heap.size wq wv := by rw [hwv]; exact (Below.refl _ _).alloc (Nat.le_refl _) _
          have hr9 : wv.heap[k9]? = some (.cells p.cells.toArray 37 (0, 0)) := by rw [hwv, hk9]; exact heap_alloc_new _ _
          have HSV := Lib.hid (HST.out.below hbv)
          have PL := Lib.hid (HSV.out.play (by omega) (by omega) hg hpf)
          have HC7 := Lib.hid HSV.out.R.cs
          have HC9 := Lib.hid (show ∀ i u, p.cells[i]? = some u → wv.cell? ((⟨k9, 0, none⟩ : Addr).add i) = some u from fun i u hu => by
            rw [Addr.add_mid, cell_of_row wv k9 (0 + i) _ _ _ hr9, Nat.zero_add]
            simpa using hu)
          have HSR := Lib.hid (Try.r5Size v)
          have HWV := Lib.hid hwv
          have HK9 := Lib.hid hk9
          clear hcell hg hp hpf hwv hk9 hbv hr9
          go_wp2_with (first
            | (with_reducible show wpList _ _ _ _ _ _; refine wpList_load_all rfl 37 (.tmp 36) rfl (a.add (j * 7)) rfl p.cells _ HC.out Try.underlying37 rfl HZ.out ?_)
            | (with_reducible show wpList _ _ _ _ _ _; refine wpList_store_new rfl 37 (.tmp 9) (.tmp 37) rfl 37 _ p.cells.toArray rfl rfl HZ'.out rfl HO1'.out ?_; rw [← HWV.out, ← HK9.out])
            | (with_reducible show wpList _ _ _ _ _ _; refine wpList_load_all rfl 32 (.tmp 7) rfl ⟨k7, 0, none⟩ rfl v.cells _ HC7.out Try.underlying32 rfl HSR.out ?_)
            | (with_reducible show wpList _ _ _ _ _ _; refine wpList_load_all rfl 37 (.tmp 9) rfl ⟨k9, 0, none⟩ rfl p.cells _ HC9.out Try.underlying37 rfl HZ.out ?_))
          refine PL.out.mono ?_
          rintro e w6 ⟨x', v', W', n', rfl, hR, hst', h1', h2', h3', _⟩
          obtain ⟨w7, hw7⟩ : ∃ w7, w7 = w6.setRow k7 v'.cells.toArray := ⟨_, rfl⟩
          have HW7 := Lib.hid hw7
          rw [← hw7] at hst'
          have RL := Lib.hid (show CsRel T w d g m k7 L1.length (.int .i64 ((j + 1 : Nat) : Int)) w7 from ⟨j + 1, n', x', v', W', rfl, by omega, by omega, by omega, hst', h3'.trans H4.out⟩)
          have HR := Lib.hid hR
          have HSV' := Lib.hid (Try.r5Size' v')
          have HSH := Lib.hid (hR.shape v')
          clear hR hst' hw7 PL h3'
          go_wp2_with (with_reducible show wpList _ _ _ _ _ _; refine wpList_store_whole rfl 32 (.tmp 7) (.tmp 43) rfl k7 32 _ v'.cells.toArray rfl rfl HR.out.row HSV'.out HSH.out v'.cells_one ?_; rw [← HW7.out])
          exact ⟨RL.out, by simp [intOf]; omega⟩
        · obtain rfl : j = L1.length := by omega
          have hjj : ¬ (L1.length : Int) < (L1.length : Int) := by omega
          have CL := Lib.hid (clone_any HST.out.D (by rw [H4.out]; decide))
          go_wp2_with fail
          refine CL.out.mono ?_
          rintro e wc ⟨d2, g2, m2, cc, TT, rfl, hDc, hd2, hg2, hm2, hbc⟩
          have HDc := Lib.hid hDc
          have WC := Lib.hid (show Calls Try.prog 11 #[.pointer (some ⟨d2, 0, none⟩)] wc fun e w' => e = .returned (.int .i64 0) ∧ wc = w' from writes_any hDc)
          have FC := Lib.hid (show Calls Try.prog 12 #[.pointer (some ⟨d2, 0, none⟩)] wc fun e w' => e = .returned (.int .i64 0) ∧ wc = w' from flushes_any hDc)
          have HSC := Lib.hid (HST.out.below hbc)
          have HO2' := Lib.hid (show ∀ k, own3 d2 g2 m2 k → wq.heap.size ≤ k ∧ k < wc.heap.size from fun k h => by
            have h1 := hDc.dlt
            have h2 := hDc.glt
            have h3 := hDc.mlt
            rcases h with h | h | h <;> omega)
          have HBC := Lib.hid hbc.size
          have HBQ := Lib.hid hbc
          clear hDc hd2 hg2 hm2 hbc CL
          obtain ⟨k11, hk11⟩ : ∃ k11, k11 = wc.heap.size := ⟨_, rfl⟩
          obtain ⟨w11, hw11⟩ : ∃ w11, w11 = wc.alloc (.cells v.cells.toArray 32) := ⟨_, rfl⟩
          have hb11 : Below wc.heap.size wc w11 := by rw [hw11]; exact (Below.refl _ _).alloc (Nat.le_refl _) _
          have hs11 : w11.heap.size = wc.heap.size + 1 := by rw [hw11]; exact Array.size_push _
          have g11 : RVB w11 k11 v := by rw [hw11, hk11]; exact heap_alloc_new _ _
          obtain ⟨w12, hw12⟩ : ∃ w12, w12 = (w11.setCell ⟨k11, 4, none⟩ (.int .i64 0)).setCell ⟨k11, 5, none⟩ (.int .i64 0) := ⟨_, rfl⟩
          obtain ⟨v2, hv2⟩ : ∃ v2 : RV, v2 = { v with wr := 0, fl := 0 } := ⟨_, rfl⟩
          have g12 : RVB w12 k11 v2 := by rw [hw12, hv2]; exact (g11.set4 0).set5 0
          have f12 : Frm (fun k => k = k11) w11 w12 := by rw [hw12]; exact ((Frm.refl (fun k => k = k11) w11).setCell (p := ⟨k11, 4, none⟩) (.inl rfl) _).setCell (p := ⟨k11, 5, none⟩) (.inl rfl) _
          have hqc : wq.heap.size ≤ wc.heap.size := HBC.out
          have hbq11 : Below wq.heap.size wq w11 := HBQ.out.trans (hb11.mono hqc)
          have hlq := HST.out.hT
          obtain ⟨T2, hT2⟩ : ∃ T2 : Nat → Prop, T2 = fun k => T k ∨ own3 d2 g2 m2 k ∨ k = k11 := ⟨_, rfl⟩
          have ne12 : ∀ k, own3 d g m k ∨ k = k7 → ¬ k = k11 := fun k hk e => by
            rcases hk with h | h
            · have := (hlq k (HST.out.hO k h).1).2; omega
            · have := (hlq k (h ▸ HST.out.h7)).2; omega
          have V12 : RVOf T2 w12 v x W := ((HST.out.V.more (T' := T2) (fun k hk e => by
              rw [hT2] at e
              rcases e with e | e | e
              · exact e
              · have := (HO2'.out k e).1; omega
              · omega)).below hbq11 (Nat.le_refl _)).frame f12 (fun k _ e => by rw [hT2]; exact .inr (.inr e))
          have STY := Lib.hid (show Stay T2 w12 d g m k7 n x v W from ⟨(HST.out.D.below hbq11 (Nat.le_refl _)).frame f12 (ne12 d (.inl (.inl rfl))) (ne12 g (.inl (.inr (.inl rfl)))) (ne12 m (.inl (.inr (.inr rfl)))), (HST.out.R.below hbq11 (Nat.le_refl _)).frame f12 (ne12 k7 (.inr rfl)), V12⟩)
          have nec : ∀ k, own3 d2 g2 m2 k → ¬ k = k11 := fun k hk e => by have := (HO2'.out k hk).2; omega
          have ST2 := Lib.hid (show PSt T2 w w12 d2 g2 m2 k11 n (x.copied cc TT) v2 W from by
            refine ⟨(HDc.out.below hb11 (Nat.le_refl _)).frame f12 (nec d2 (.inl rfl)) (nec g2 (.inr (.inl rfl))) (nec m2 (.inr (.inr rfl))), g12, ?_, HST.out.L.of rfl rfl, ?_, fun k hk => ?_, fun k hk => ?_, ?_⟩
            · rw [hv2]
              exact ⟨V12.sn, V12.wn, V12.dn, V12.fu, rfl, rfl, V12.S, V12.W⟩
            · have hb := HST.out.be.trans (hbq11.mono HST.out.be.size)
              exact hb.trans (f12.below (fun k _ e => by have := HST.out.be.size; omega) hb.size)
            · have h1 := f12.size
              have h2 := HST.out.be.size
              rw [hT2] at hk
              rcases hk with e | e | e
              · have := hlq k e; omega
              · have := HO2'.out k e; omega
              · omega
            · rw [hT2]
              exact ⟨.inr (.inl hk), nec k hk⟩
            · rw [hT2]; exact .inr (.inr rfl))
          have DIS := Lib.hid (show (∀ k, own3 d g m k ∨ k = k7 → ¬ (own3 d2 g2 m2 k ∨ k = k11)) ∧ (∀ k, own3 d2 g2 m2 k ∨ k = k11 → T2 k) from ⟨fun k hk e => by
            have h1 : k < wq.heap.size := by
              rcases hk with h | h
              · exact (hlq k (HST.out.hO k h).1).2
              · exact (hlq k (h ▸ HST.out.h7)).2
            rcases e with e | e
            · have := (HO2'.out k e).1; omega
            · omega, fun k hk => by rw [hT2]; exact .inr hk⟩)
          have R0 := Lib.hid (show C2Rel T2 w d g m k7 n x v W d2 g2 m2 k11 30 L2.length (.int .i64 0) w12 from ⟨0, n, x.copied cc TT, v2, W, rfl, Nat.zero_le _, by omega, by omega, ST2.out, STY.out⟩)
          have HC7 := Lib.hid HSC.out.R.cs
          have HSR := Lib.hid (Try.r5Size v)
          have HSR' := Lib.hid (Try.r5Size' v)
          have e4 := g11.c4
          have e5 := g11.c5
          have fe4 := g11.f 4
          have fe5 := g11.f 5
          have HW11 := Lib.hid hw11
          have HK11 := Lib.hid hk11
          have HW12 := Lib.hid hw12
          have HLK := Lib.hid HST.out.L
          have HNB := Lib.hid (show n ≤ 30 ∧ W.length ≤ 30 from by omega)
          clear hk11 hw11 hb11 hs11 g11 hw12 hv2 g12 f12 hqc hbq11 hlq hT2 ne12 V12 nec ST2 STY
          go_upto_region 18 with (first
            | (go_at_call 11; refine WC.out.mono ?_; rintro e w' ⟨rfl, rfl⟩)
            | (go_at_call 12; refine FC.out.mono ?_; rintro e w' ⟨rfl, rfl⟩)
            | (with_reducible show wpList _ _ _ _ _ _; refine wpList_load_all rfl 32 (.tmp 7) rfl ⟨k7, 0, none⟩ rfl v.cells _ HC7.out Try.underlying32 rfl HSR.out ?_)
            | (with_reducible show wpList _ _ _ _ _ _; refine wpList_store_new rfl 32 (.tmp 11) (.tmp 64) rfl 32 _ v.cells.toArray rfl rfl HSR'.out rfl v.cells_one ?_; rw [← HW11.out, ← HK11.out]))
          go_upto_region 19 with fail
          rw [← HW12.out]
          clear e4 e5 fe4 fe5
          go_wp2_with fail
          go_loopw [69] (fun u wr => C2Rel T2 w d g m k7 n x v W d2 g2 m2 k11 30 L2.length u wr) (fun u _ => L2.length - (intOf u).toNat)
          case atStart => exact R0.out
          case round =>
            obtain ⟨wp, rfl⟩ : ∃ wp : World, wp = wr := ⟨_, rfl⟩
            obtain ⟨i, n2, x2, v2, W2, rfl, hi, hn2, hW2, hst2, hsty⟩ := hrel
            have HST2 := Lib.hid hst2
            have HSTY := Lib.hid hsty
            clear hst2 hsty R0
            by_cases hil : i < L2.length
            · have hii : (i : Int) < (L2.length : Int) := by omega
              obtain ⟨a, rfl, hcell, hg⟩ := HO2.out.at hil
              obtain ⟨p, hp⟩ : ∃ p, p = L2.getD i default := ⟨_, rfl⟩
              have hpf : p.fits = true := by rw [hp]; exact HF2.out _ (by simp [List.getD, hil])
              rw [← hp] at hcell hg
              have HC := Lib.hid (show ∀ i' v, p.cells[i']? = some v → wp.cell? ((a.add (i * 7)).add i') = some v from fun i' v hv => by
                have h := hcell i' v hv
                rw [HST2.out.be.cell (World.block_lt_of_cell? w _ h)]
                exact h)
              have HZ := Lib.hid (Try.opSize p)
              have HZ' := Lib.hid (show (Try.prog.info? 37).map (·.size) = some p.cells.toArray.size by rw [List.size_toArray]; exact Try.opSize p)
              have HO1' := Lib.hid p.cells_one
              obtain ⟨wv, hwv⟩ : ∃ wv, wv = wp.alloc (.cells p.cells.toArray 37) := ⟨_, rfl⟩
              obtain ⟨k13, hk13⟩ : ∃ k13, k13 = wp.heap.size := ⟨_, rfl⟩
              have hbv : Below wp.heap.size wp wv := by rw [hwv]; exact (Below.refl _ _).alloc (Nat.le_refl _) _
              have hr13 : wv.heap[k13]? = some (.cells p.cells.toArray 37 (0, 0)) := by rw [hwv, hk13]; exact heap_alloc_new _ _
              have HSV := Lib.hid (HST2.out.below hbv)
              have HSS := Lib.hid (HSTY.out.frame (Frm.of_below (T := fun _ => False) hbv (Nat.le_refl _)) (fun _ _ e => e) (fun _ e => e.elim))
              have PL := Lib.hid (HSV.out.play (by omega) (by omega) hg hpf)
              have HC11 := Lib.hid HSV.out.R.cs
              have HC13 := Lib.hid (show ∀ i u, p.cells[i]? = some u → wv.cell? ((⟨k13, 0, none⟩ : Addr).add i) = some u from fun i u hu => by
                rw [Addr.add_mid, cell_of_row wv k13 (0 + i) _ _ _ hr13, Nat.zero_add]
                simpa using hu)
              have HS2 := Lib.hid (Try.r5Size v2)
              have HWV := Lib.hid hwv
              have HK13 := Lib.hid hk13
              clear hcell hg hp hpf hwv hk13 hbv hr13
              go_wp2_with (first
                | (with_reducible show wpList _ _ _ _ _ _; refine wpList_load_all rfl 37 (.tmp 71) rfl (a.add (i * 7)) rfl p.cells _ HC.out Try.underlying37 rfl HZ.out ?_)
                | (with_reducible show wpList _ _ _ _ _ _; refine wpList_store_new rfl 37 (.tmp 13) (.tmp 72) rfl 37 _ p.cells.toArray rfl rfl HZ'.out rfl HO1'.out ?_; rw [← HWV.out, ← HK13.out])
                | (with_reducible show wpList _ _ _ _ _ _; refine wpList_load_all rfl 32 (.tmp 11) rfl ⟨k11, 0, none⟩ rfl v2.cells _ HC11.out Try.underlying32 rfl HS2.out ?_)
                | (with_reducible show wpList _ _ _ _ _ _; refine wpList_load_all rfl 37 (.tmp 13) rfl ⟨k13, 0, none⟩ rfl p.cells _ HC13.out Try.underlying37 rfl HZ.out ?_))
              refine PL.out.mono ?_
              rintro e w6 ⟨x', v', W', n', rfl, hR, hst', h1', h2', _, hfr⟩
              obtain ⟨w7, hw7⟩ : ∃ w7, w7 = w6.setRow k11 v'.cells.toArray := ⟨_, rfl⟩
              have HW7 := Lib.hid hw7
              rw [← hw7] at hst' hfr
              have RL := Lib.hid (show C2Rel T2 w d g m k7 n x v W d2 g2 m2 k11 30 L2.length (.int .i64 ((i + 1 : Nat) : Int)) w7 from ⟨i + 1, n', x', v', W', rfl, by omega, by omega, by omega, hst', HSS.out.frame hfr DIS.out.1 DIS.out.2⟩)
              have HR := Lib.hid hR
              have HSV' := Lib.hid (Try.r5Size' v')
              have HSH := Lib.hid (hR.shape v')
              clear hR hst' hw7 PL hfr
              go_wp2_with (with_reducible show wpList _ _ _ _ _ _; refine wpList_store_whole rfl 32 (.tmp 11) (.tmp 78) rfl k11 32 _ v'.cells.toArray rfl rfl HR.out.row HSV'.out HSH.out v'.cells_one ?_; rw [← HW7.out])
              exact ⟨RL.out, by simp [intOf]; omega⟩
            · obtain rfl : i = L2.length := by omega
              have hii : ¬ (L2.length : Int) < (L2.length : Int) := by omega
              have HCE := Lib.hid HSTY.out.R.cs
              have SM := Lib.hid (same5_any HSTY.out.D HSTY.out.V HLK.out (by have := HNB.out; omega) (by have := HNB.out; omega))
              go_wp2_with (with_reducible show wpList _ _ _ _ _ _; refine wpList_load_all rfl 32 (.tmp 7) rfl ⟨k7, 0, none⟩ rfl v.cells _ HCE.out Try.underlying32 rfl HSR.out ?_)
              refine SM.out.mono ?_
              rintro e w9 ⟨rfl, hb9⟩
              have HB9 := Lib.hid (HST2.out.be.trans (hb9.mono HST2.out.be.size))
              clear hb9 SM
              go_wp2_with fail
              go_ret
              exact ⟨rfl, HB9.out⟩
end Go.Proofs.Ythcliaaoadfegaa.Dk
