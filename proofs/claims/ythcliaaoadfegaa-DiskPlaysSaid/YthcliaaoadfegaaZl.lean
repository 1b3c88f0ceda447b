/- The laws DiskPlays and DiskClone: a script is played. -/
import Derived.Test.YthcliaaoadfegaaZy
import Derived.Test.YthcliaaoadfegaaZg
import Derived.Test.YthcliaaoadfegaaDq
import Derived.Test.YthcliaaoadfegaaDj
namespace Go.Proofs.Ythcliaaoadfegaa.Dk
open Go Go.RowKit
set_option linter.unusedVariables false
set_option linter.unusedSimpArgs false
theorem opData {w : World} {p : OpD} (h : p.Good w) : (0 < p.data.length → ∀ a, p.ao = some a → a.block < w.heap.size) ∧ (0 < p.keep.length → ∀ a, p.ko = some a → a.block < w.heap.size) := by
  refine ⟨fun h0 a ha => ?_, fun h0 a ha => ?_⟩
  · obtain ⟨ao, c, e, hno, hc⟩ := h.data
    injection e with e1 e2 e3
    have := hc a (e1 ▸ ha) 0 (bv (p.data.getD 0 0)) (by simp [bvs, List.getD, h0])
    have hlt := World.block_lt_of_cell? w _ this
    exact hlt
  · obtain ⟨ao, c, e, hc, _⟩ := h.keep
    injection e with e1 e2 e3
    obtain ⟨a', ha', h1⟩ := hc 0 h0
    have e4 : a' = a := by rw [← e1, ha] at ha'; exact (Option.some.inj ha').symm
    subst e4
    exact World.block_lt_of_cell? w _ h1
/-- A script that is being played. -/
structure PSt (T : Nat → Prop) (w wr : World) (d g m k7 n : Nat) (x : DS) (v : RV) (W : List (Int × List UInt8)) : Prop where
  D : DiskAt Try.prog wr d g m n x
  R : RVB wr k7 v
  V : RVOf T wr v x W
  L : Link x W
  be : Below w.heap.size w wr
  hT : ∀ k, T k → w.heap.size ≤ k ∧ k < wr.heap.size
  hO : ∀ k, own3 d g m k → T k ∧ k ≠ k7
  h7 : T k7
variable {T : Nat → Prop} {w wr wv w' : World} {d g m k7 n n' : Nat} {x x' : DS} {v v' : RV} {W W' : List (Int × List UInt8)} {p : OpD}
theorem PSt.below (h : PSt T w wr d g m k7 n x v W) (hb : Below wr.heap.size wr w') : PSt T w w' d g m k7 n x v W :=
  ⟨h.D.below hb (Nat.le_refl _), h.R.below hb (Nat.le_refl _), h.V.below hb (Nat.le_refl _), h.L, h.be.trans (hb.mono h.be.size), fun k hk => ⟨(h.hT k hk).1, Nat.lt_of_lt_of_le (h.hT k hk).2 hb.size⟩, h.hO, h.h7⟩
/-- What play answers there. -/
theorem PSt.play (h : PSt T w wr d g m k7 n x v W) (hn : n ≤ 1000000) (hW : W.length ≤ 900000) (hg : p.Good w) (hfit : p.fits = true) :
    Calls Try.prog 9 #[.pointer (some ⟨d, 0, none⟩), .agg v.cells.toArray, .agg p.cells.toArray] wr fun e w' => ∃ (x' : DS) (v' : RV) (W' : List (Int × List UInt8)) (n' : Nat), e = .returned (.tuple #[.agg v'.cells.toArray, .bool true]) ∧ RVB w' k7 v ∧ PSt T w (w'.setRow k7 v'.cells.toArray) d g m k7 n' x' v' W' ∧ n' ≤ n + 1 ∧ W'.length ≤ W.length + 1 ∧ x'.s.length = x.s.length ∧ Frm (fun k => own3 d g m k ∨ k = k7) wr (w'.setRow k7 v'.cells.toArray) := by
  obtain ⟨hd, hk⟩ := opData hg
  refine (play5_any h.D h.V h.L (fun k hk => (h.hO k hk).1) (fun k hk => (h.hT k hk).2) hn hW (hg.below h.be (Nat.le_refl _)) hfit (fun h0 a ha e => by have h1 := hd h0 a ha; have h2 := (h.hT _ (h.hO _ e).1).1; omega) (fun h0 a ha e => by have h1 := hk h0 a ha; have h2 := (h.hT _ (h.hO _ e).1).1; omega)).mono ?_
  rintro e w' ⟨x', v', W', n', rfl, hD, hV, hL, hF, h1, h2, h3⟩
  have hR := h.R.frame hF (fun e => (h.hO _ e).2 rfl)
  have f7 : Frm (fun k => k = k7) w' (w'.setRow k7 v'.cells.toArray) := (Frm.refl (fun k => k = k7) w').setRow (.inl rfl) _
  refine ⟨x', v', W', n', rfl, hR, ⟨hD.frame f7 (fun e => (h.hO d (.inl rfl)).2 e) (fun e => (h.hO g (.inr (.inl rfl))).2 e) (fun e => (h.hO m (.inr (.inr rfl))).2 e), hR.whole v', hV.frame f7 (fun k _ e => e ▸ h.h7), hL, ?_, fun k hk => ⟨(h.hT k hk).1, ?_⟩, h.hO, h.h7⟩, h1, h2, h3, ?_⟩
  · exact below_setRow (h.be.trans (hF.below (fun k hk e => (h.hT k (h.hO k e).1).1) h.be.size)) (h.hT k7 h.h7).1 _
  · exact Nat.lt_of_lt_of_le (h.hT k hk).2 (Nat.le_trans hF.size f7.size)
  · exact (hF.mono (fun _ _ e => .inl e)).trans (f7.mono (fun _ _ e => .inr e))
set_option maxRecDepth 100000 in
set_option maxHeartbeats 800000 in
theorem new_bad (z : Int) (hz : z < 1) (w : World) : Calls Try.prog 7 #[.int .i64 z] w fun e w' => e = .returned (.tuple #[.pointer none, .int .i64 1]) ∧ w' = w := by
  go_enter Try.func7, Try.ntmps7
  go_wp2_with fail
  go_ret2
  exact ⟨rfl, rfl⟩
def PsRel (T : Nat → Prop) (w : World) (d g m k7 N : Nat) (u : Value) (wr : World) : Prop :=
  ∃ (j n : Nat) (x : DS) (v : RV) (W : List (Int × List UInt8)), u = .int .i64 (j : Int) ∧ j ≤ N ∧ n ≤ j ∧ W.length ≤ j ∧ PSt T w wr d g m k7 n x v W
set_option maxRecDepth 100000 in
set_option maxHeartbeats 3200000 in
theorem plays_any (S : Int) (ao : Option Addr) (c : Nat) (L : List OpD) (w : World) (hO : Ops w (.slice ao L.length c) L) (hlen : L.length ≤ 9223372036854775807) :
    Calls Try.prog 3 #[.int .i64 S, .slice ao L.length c] w fun e w' => e = .returned (.bool true) ∧ Below w.heap.size w w' := by
  have FT := Lib.hid (fun W h => fits_any ao c L W h hlen)
  have HO := Lib.hid hO
  clear hO
  cases hfit : fitsB L with
  | false =>
    rw [hfit] at FT
    clear hfit
    go_enter Try.func3, Try.ntmps3
    go_wp2_with fail
    refine (works_any w).mono ?_
    rintro e w0 ⟨rfl, hB0⟩
    have HB0 := Lib.hid hB0
    clear hB0
    go_wp2_with fail
    refine (FT.out w0 (HO.out.below HB0.out (Nat.le_refl _))).mono ?_
    rintro e w1 ⟨rfl, hB1⟩
    have HB1 := Lib.hid (HB0.out.trans (hB1.mono HB0.out.size))
    clear hB1 FT HB0
    go_wp2_with fail
    go_ret
    exact ⟨rfl, HB1.out⟩
  | true =>
    rw [hfit] at FT
    have h30 : L.length ≤ 30 := by simp [fitsB] at hfit; exact hfit.1
    have HF := Lib.hid (show ∀ p ∈ L, OpD.fits p = true from by
      unfold fitsB at hfit
      simp only [Bool.and_eq_true, List.all_eq_true] at hfit
      exact hfit.2)
    clear hfit
    by_cases h8 : 8 < S
    · go_enter Try.func3, Try.ntmps3
      go_wp2_with fail
      refine (works_any w).mono ?_
      rintro e w0 ⟨rfl, hB0⟩
      have HB0 := Lib.hid hB0
      clear hB0
      go_wp2_with fail
      refine (FT.out w0 (HO.out.below HB0.out (Nat.le_refl _))).mono ?_
      rintro e w1 ⟨rfl, hB1⟩
      have HB1 := Lib.hid (HB0.out.trans (hB1.mono HB0.out.size))
      clear hB1 FT HB0
      go_wp2_with fail
      go_ret
      exact ⟨rfl, HB1.out⟩
    · by_cases h1 : S < 1
      · have NB := Lib.hid (fun W => new_bad S h1 W)
        go_enter Try.func3, Try.ntmps3
        go_wp2_with fail
        refine (works_any w).mono ?_
        rintro e w0 ⟨rfl, hB0⟩
        have HB0 := Lib.hid hB0
        clear hB0
        go_wp2_with fail
        refine (FT.out w0 (HO.out.below HB0.out (Nat.le_refl _))).mono ?_
        rintro e w1 ⟨rfl, hB1⟩
        have HB1 := Lib.hid (HB0.out.trans (hB1.mono HB0.out.size))
        clear hB1 FT HB0
        go_wp2_with fail
        refine (NB.out w1).mono ?_
        rintro e w2 ⟨rfl, hww⟩
        have hww' := hww.symm
        subst hww'
        clear NB
        go_wp2_with fail
        go_ret
        exact ⟨rfl, HB1.out⟩
      · obtain ⟨n0, rfl⟩ : ∃ n0 : Nat, S = (n0 : Int) := ⟨S.toNat, by omega⟩
        have hn1 : 1 ≤ n0 := by omega
        have hn8 : n0 ≤ 8 := by omega
        go_enter Try.func3, Try.ntmps3
        go_wp2_with fail
        refine (works_any w).mono ?_
        rintro e w0 ⟨rfl, hB0⟩
        have HB0 := Lib.hid hB0
        clear hB0
        go_wp2_with fail
        refine (FT.out w0 (HO.out.below HB0.out (Nat.le_refl _))).mono ?_
        rintro e w1 ⟨rfl, hB1⟩
        have HB1 := Lib.hid (HB0.out.trans (hB1.mono HB0.out.size))
        clear hB1 FT HB0
        go_wp2_with fail
        refine (new_any n0 hn1 (by omega) w1).mono ?_
        rintro e w2 ⟨d, g, m, rfl, hD2, hb2, hd, hg, hm⟩
        have HB2 := Lib.hid (HB1.out.trans (hb2.mono HB1.out.size))
        have HD2 := Lib.hid hD2
        have HOW := Lib.hid (show ∀ k, own3 d g m k → w.heap.size ≤ k ∧ k < w2.heap.size from fun k h => by
          have := HB1.out.size
          have h1 := hD2.dlt
          have h2 := hD2.glt
          have h3 := hD2.mlt
          rcases h with h | h | h <;> omega)
        have RN := Lib.hid (r5New_any (T := own3 d g m) n0 hn8 w2 (fun k hk => (HOW.out k hk).2))
        clear hD2 hb2 hd hg hm
        go_wp2_with fail
        refine RN.out.mono ?_
        rintro e w3 ⟨v, rfl, hV, hb3⟩
        obtain ⟨k7, hk7⟩ : ∃ k7, k7 = w3.heap.size := ⟨_, rfl⟩
        obtain ⟨w4, hw4⟩ : ∃ w4, w4 = w3.alloc (.cells v.cells.toArray 32) := ⟨_, rfl⟩
        have hb4 : Below w3.heap.size w3 w4 := by rw [hw4]; exact (Below.refl _ _).alloc (Nat.le_refl _) _
        obtain ⟨T, hT⟩ : ∃ T : Nat → Prop, T = fun k => own3 d g m k ∨ k = k7 := ⟨_, rfl⟩
        have hb24 := hb3.trans (hb4.mono hb3.size)
        have ST := Lib.hid (show PSt T w w4 d g m k7 0 (DS.new n0) v [] from by
          refine ⟨HD2.out.below hb24 (Nat.le_refl _), by rw [hw4, hk7]; exact heap_alloc_new _ _, ((hV.more (fun k hk e => ?_)).below hb4 (Nat.le_refl _)), Link.new n0, HB2.out.trans (hb24.mono HB2.out.size), fun k hk => ?_, fun k hk => ?_, ?_⟩
          · rw [hT] at e
            rcases e with e | e
            · exact e
            · omega
          · rw [hT] at hk
            have h1 := hb3.size
            have h2 := HB2.out.size
            have h3 : w4.heap.size = w3.heap.size + 1 := by rw [hw4]; exact Array.size_push _
            rcases hk with e | e
            · have := HOW.out k e; omega
            · omega
          · have := HOW.out k hk
            have h1 := hb3.size
            rw [hT]
            exact ⟨.inl hk, by omega⟩
          · rw [hT]; exact .inr rfl)
        have P0 := Lib.hid (show PsRel T w d g m k7 L.length (.int .i64 0) w4 from ⟨0, 0, DS.new n0, v, [], rfl, Nat.zero_le _, Nat.le_refl _, Nat.le_refl _, ST.out⟩)
        have HW4 := Lib.hid hw4
        have HK7 := Lib.hid hk7
        have HSV := Lib.hid (Try.r5Size' v)
        clear hb3 hb4 hb24 hw4 hk7 hT hV ST RN
        go_upto_region 11 with (with_reducible show wpList _ _ _ _ _ _; refine wpList_store_new rfl 32 (.tmp 7) (.tmp 40) rfl 32 _ v.cells.toArray rfl rfl HSV.out rfl v.cells_one ?_)
        rw [← HW4.out, ← HK7.out]
        go_wp2_with fail
        go_loopw [43] (fun u wr => PsRel T w d g m k7 L.length u wr) (fun u _ => L.length - (intOf u).toNat)
        case atStart => exact P0.out
        case round =>
          obtain ⟨wq, rfl⟩ : ∃ wq : World, wq = wr := ⟨_, rfl⟩
          obtain ⟨j, n, x, v, W, rfl, hj, hn, hW, hst⟩ := hrel
          have HST := Lib.hid hst
          clear hst P0
          by_cases hjl : j < L.length
          · have hjj : (j : Int) < (L.length : Int) := by omega
            obtain ⟨a, rfl, hcell, hg⟩ := HO.out.at hjl
            obtain ⟨p, hp⟩ : ∃ p, p = L.getD j default := ⟨_, rfl⟩
            have hpf : p.fits = true := by rw [hp]; exact HF.out _ (by simp [List.getD, hjl])
            rw [← hp] at hcell hg
            have HC := Lib.hid (show ∀ i v, p.cells[i]? = some v → wq.cell? ((a.add (j * 7)).add i) = some v from fun i v hv => by
              have h := hcell i v hv
              rw [HST.out.be.cell (World.block_lt_of_cell? w _ h)]
              exact h)
            have HZ := Lib.hid (Try.opSize p)
            have HZ' := Lib.hid (show (Try.prog.info? 37).map (·.size) = some p.cells.toArray.size by rw [List.size_toArray]; exact Try.opSize p)
            have HO1 := Lib.hid p.cells_one
            obtain ⟨wv, hwv⟩ : ∃ wv, wv = wq.alloc (.cells p.cells.toArray 37) := ⟨_, rfl⟩
            obtain ⟨k9, hk9⟩ : ∃ k9, k9 = wq.heap.size := ⟨_, rfl⟩
            have hbv : Below wq.heap.size wq wv := by rw [hwv]; exact (Below.refl _ _).alloc (Nat.le_refl _) _
            have hr9 : wv.heap[k9]? = some (.cells p.cells.toArray 37 (0, 0)) := by rw [hwv, hk9]; exact heap_alloc_new _ _
            have HSV := Lib.hid (HST.out.below hbv)
            have PL := Lib.hid (HSV.out.play (by omega) (by omega) hg hpf)
            have HC7 := Lib.hid HSV.out.R.cs
            have HC9 := Lib.hid (show ∀ i u, p.cells[i]? = some u → wv.cell? ((⟨k9, 0, none⟩ : Addr).add i) = some u from fun i u hu => by
              rw [Addr.add_mid, cell_of_row wv k9 (0 + i) _ _ _ hr9, Nat.zero_add]
              simpa using hu)
            have HSR := Lib.hid (Try.r5Size v)
            have HWV := Lib.hid hwv
            have HK9 := Lib.hid hk9
            clear hcell hg hp hpf hwv hk9 hbv hr9
            go_wp2_with (first
              | (with_reducible show wpList _ _ _ _ _ _; refine wpList_load_all rfl 37 (.tmp 45) rfl (a.add (j * 7)) rfl p.cells _ HC.out Try.underlying37 rfl HZ.out ?_)
              | (with_reducible show wpList _ _ _ _ _ _; refine wpList_store_new rfl 37 (.tmp 9) (.tmp 46) rfl 37 _ p.cells.toArray rfl rfl HZ'.out rfl HO1.out ?_; rw [← HWV.out, ← HK9.out])
              | (with_reducible show wpList _ _ _ _ _ _; refine wpList_load_all rfl 32 (.tmp 7) rfl ⟨k7, 0, none⟩ rfl v.cells _ HC7.out Try.underlying32 rfl HSR.out ?_)
              | (with_reducible show wpList _ _ _ _ _ _; refine wpList_load_all rfl 37 (.tmp 9) rfl ⟨k9, 0, none⟩ rfl p.cells _ HC9.out Try.underlying37 rfl HZ.out ?_))
            refine PL.out.mono ?_
            rintro e w6 ⟨x', v', W', n', rfl, hR, hst', h1', h2', _, _⟩
            obtain ⟨w7, hw7⟩ : ∃ w7, w7 = w6.setRow k7 v'.cells.toArray := ⟨_, rfl⟩
            have HW7 := Lib.hid hw7
            rw [← hw7] at hst'
            have RL := Lib.hid (show PsRel T w d g m k7 L.length (.int .i64 ((j + 1 : Nat) : Int)) w7 from ⟨j + 1, n', x', v', W', rfl, by omega, by omega, by omega, hst'⟩)
            have HR := Lib.hid hR
            have HSV' := Lib.hid (Try.r5Size' v')
            have HSH := Lib.hid (hR.shape v')
            clear hR hst' hw7 PL
            go_wp2_with (with_reducible show wpList _ _ _ _ _ _; refine wpList_store_whole rfl 32 (.tmp 7) (.tmp 52) rfl k7 32 _ v'.cells.toArray rfl rfl HR.out.row HSV'.out HSH.out v'.cells_one ?_; rw [← HW7.out])
            exact ⟨RL.out, by simp [intOf]; omega⟩
          · obtain rfl : j = L.length := by omega
            have hjj : ¬ (L.length : Int) < (L.length : Int) := by omega
            go_wp2_with fail
            go_ret
            exact ⟨rfl, HST.out.be⟩
end Go.Proofs.Ythcliaaoadfegaa.Dk
