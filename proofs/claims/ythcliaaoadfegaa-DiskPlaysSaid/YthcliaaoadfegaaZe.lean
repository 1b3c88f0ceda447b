/- The reference's disk: Up, Put. -/
import Derived.Test.YthcliaaoadfegaaZc
namespace Go.Proofs.Ythcliaaoadfegaa.Dk
open Go Go.RowKit
set_option linter.unusedVariables false
set_option linter.unusedSimpArgs false
section
variable {w0 w w' : World} {base size n : Nat} {e : TypeId} {v v' : Value} {xs : List Value}
theorem grew_below (hG : Grew w w' base e size v v' n xs) (hv : ∀ k, v.ownBlock = some k → w0.heap.size ≤ k) (hb : Below w0.heap.size w0 w) : Below w0.heap.size w0 w' ∧ (∀ k, v'.ownBlock = some k → w0.heap.size ≤ k) := by
  refine ⟨((Frm.of_below (T := fun _ => False) hb (Nat.le_refl _)).grown hG.2.1 (fun j e => .inr (hv j e))).below (fun _ _ h => h.elim) (Nat.le_refl _), fun k hk => ?_⟩
  rcases hG.2.2 with h | h
  · exact hv k (h ▸ hk)
  · rw [h] at hk
    cases hk
    exact hb.size
theorem own_sl (h : w.ownsRow base e size v n xs) : ∃ ao c, v = .slice ao n c := by
  rcases h.2 with ⟨rfl, rfl⟩ | ⟨g, cap, cur, rfl, _⟩
  · exact ⟨none, 0, rfl⟩
  · exact ⟨_, cap, rfl⟩
theorem own_empty (w : World) (e : TypeId) (size : Nat) (hb : base ≤ w.heap.size) : (w.alloc (.cells #[] e)).ownsRow base e size (.slice (some ⟨w.heap.size, 0, none⟩) 0 0) 0 [] :=
  ⟨by simp, .inr ⟨w.heap.size, 0, #[], rfl, hb, heap_alloc_new w _, Nat.le_refl _, Nat.zero_le _, by simp, by simp⟩⟩
end
theorem Try.infoStr : (Try.prog.info? 9).map (fun i => (i.zero, i.size, i.bytes)) = some (some (.string ⟨#[]⟩), 1, 16) := by kernel_rfl
theorem Try.infoWr5 : (Try.prog.info? 80).map (fun i => (i.zero, i.size, i.bytes)) = some (some (.agg #[.int .i64 0, .string ⟨#[]⟩]), 2, 24) := by kernel_rfl
theorem src5_one (w : World) (b : ByteArray) : Go.Src Try.prog 1 29 (.slice (some ⟨w.heap.size, 0, none⟩) 1 1) 1 [.string b] (w.alloc (.cells #[.string b] 9)) :=
  Src.any _ (e' := 9) Try.underlying29 _ 1 1 [.string b] rfl (fun h => by cases h) (fun a ha j u hu => by
    cases ha
    match j, hu with
    | 0, hu =>
      obtain rfl : Value.string b = u := by simpa using hu
      rw [Addr.add_mid, Nat.zero_add, cell_of_row _ _ 0 _ _ _ (heap_alloc_new w _)]; rfl
    | j + 1, hu => simp at hu) (fun u hu => by
    obtain rfl : u = Value.string b := by simpa using hu
    rfl)
theorem src5_wr (w : World) (i : Int) (b : ByteArray) : Go.Src Try.prog 2 30 (.slice (some ⟨w.heap.size, 0, none⟩) 1 1) 1 [.int .i64 i, .string b] (w.alloc (.cells #[.int .i64 i, .string b] 80)) :=
  Src.any _ (e' := 80) Try.underlying30 _ 1 1 [.int .i64 i, .string b] rfl (fun h => by cases h) (fun a ha j u hu => by
    cases ha
    match j, hu with
    | 0, hu =>
      obtain rfl : Value.int .i64 i = u := by simpa using hu
      rw [Addr.add_mid, Nat.zero_add, cell_of_row _ _ 0 _ _ _ (heap_alloc_new w _)]; rfl
    | 1, hu =>
      obtain rfl : Value.string b = u := by simpa using hu
      rw [Addr.add_mid, Nat.zero_add, cell_of_row _ _ 1 _ _ _ (heap_alloc_new w _)]; rfl
    | j + 2, hu => simp at hu) (fun u hu => by
    simp only [List.mem_cons, List.not_mem_nil, or_false] at hu
    rcases hu with rfl | rfl <;> rfl)
theorem WrA.src {T : Nat → Prop} {w : World} {wo : Option Addr} {wc : Nat} {W : List (Int × List UInt8)} (h : WrA T w wo W) : Go.Src Try.prog 2 30 (.slice wo W.length wc) W.length (wcells W) w := by
  refine Src.any _ (e' := 80) Try.underlying30 wo W.length wc (wcells W) (wcells_length W) (fun e => by rw [h.1 e]; rfl) (fun a ha j u hu => ?_) (wcells_one W)
  obtain ⟨k, rfl, _, _, hc⟩ := h.2 a ha
  have hj : j < W.length * 2 := by have := (List.getElem?_eq_some_iff.1 hu).1; rwa [wcells_length] at this
  obtain ⟨q, r, rfl, hr⟩ : ∃ q r, j = q * 2 + r ∧ r < 2 := ⟨j / 2, j % 2, by omega, by omega⟩
  have hq : q < W.length := by omega
  obtain ⟨a1, a2⟩ := wcells_at W q hq
  obtain ⟨b1, b2⟩ := hc q hq
  rw [Addr.add_mid, Nat.zero_add]
  rcases (show r = 0 ∨ r = 1 by omega) with rfl | rfl
  · rw [Nat.add_zero] at hu ⊢
    rw [a1] at hu
    cases hu
    exact b1
  · rw [a2] at hu
    cases hu
    exact b2
set_option maxRecDepth 100000 in
set_option maxHeartbeats 1600000 in
theorem r5Up_any {T : Nat → Prop} {w : World} {v : RV} {x : DS} {W : List (Int × List UInt8)} (hv : RVOf T w v x W) :
    Calls Try.prog 27 #[.agg v.cells.toArray] w fun e w' => ∃ v', e = .returned (.agg v'.cells.toArray) ∧ RVOf T w' v' x.up (upW x W) ∧ Below w.heap.size w w' := by
  obtain ⟨h1, h2, hb, hsz⟩ := ent_spec w v
  obtain ⟨k1, hk1⟩ : ∃ k, k = w.heap.size := ⟨_, rfl⟩
  obtain ⟨k2, hk2⟩ : ∃ k, k = w.heap.size + 1 := ⟨_, rfl⟩
  obtain ⟨w2, hw2⟩ : ∃ w2, w2 = ent w v := ⟨_, rfl⟩
  rw [← hk1, ← hw2] at h1
  rw [← hk2, ← hw2] at h2
  rw [← hw2] at hb
  have hne : k1 ≠ k2 := by omega
  have hkb : w.heap.size ≤ k1 ∧ w.heap.size ≤ k2 := by omega
  have HKB := Lib.hid hkb
  have HNE := Lib.hid hne
  have H1 := Lib.hid h1
  have H2 := Lib.hid h2
  have HB := Lib.hid hb
  have HV := Lib.hid hv
  have HW2 := Lib.hid (ent_lit hw2)
  have HK1 := Lib.hid hk1
  have HK2 := Lib.hid hk2
  have HSZ := Lib.hid (Try.r5Size v)
  have HSZ' := Lib.hid (Try.r5Size' v)
  have HCS := Lib.hid h1.cs
  have HS0 := Lib.hid (h2.shape v)
  have c2 := h1.c2
  rw [hv.dn] at c2
  have f1 := h1.f 1
  have f2 := h1.f 2
  have c1 := h1.c1
  clear h1 h2 hb hsz hk1 hk2 hw2 hne hkb hv
  unfold DS.up upW
  cases hd : x.down with
  | true =>
    rw [hd] at c2
    rw [if_pos rfl, if_pos rfl]
    obtain ⟨u, hu⟩ : ∃ u : RV, u = { v with wo := none, wn := 0, wc := 0, down := false } := ⟨_, rfl⟩
    obtain ⟨w3, hw3⟩ : ∃ w3, w3 = w2.setCell ⟨k1, 1, none⟩ (.slice none 0 0) := ⟨_, rfl⟩
    obtain ⟨w4, hw4⟩ : ∃ w4, w4 = w3.setCell ⟨k1, 2, none⟩ (.bool false) := ⟨_, rfl⟩
    have f2' : w3.frozen? ⟨k1, 2, none⟩ = false := by rw [hw3]; exact (H1.out.set1 none 0 0).f 2
    have c2' : w3.cell? ⟨k1, 2, none⟩ = some (.bool v.down) := by rw [hw3]; exact (H1.out.set1 none 0 0).c2
    have g1 : RVB w4 k1 u := by rw [hu, hw4, hw3]; exact (H1.out.set1 none 0 0).set2 false
    have g2 : RVB w4 k2 zeroR := by rw [hw4, hw3]; exact (H2.out.other (fun e => HNE.out e.symm) _).other (fun e => HNE.out e.symm) _
    have gb : Below w.heap.size w w4 := by rw [hw4, hw3]; exact (HB.out.setCell (p := ⟨k1, 1, none⟩) HKB.out.1 _).setCell (p := ⟨k1, 2, none⟩) HKB.out.1 _
    have G2 := Lib.hid g2
    have GCS := Lib.hid g1.cs
    have HW3 := Lib.hid hw3
    have HW4 := Lib.hid hw4
    have GR := Lib.hid (r5_ret (u := u) g2 gb HKB.out.2)
    have GS0 := Lib.hid (g2.shape u)
    have GSZ := Lib.hid (Try.r5Size u)
    have GSZ' := Lib.hid (Try.r5Size' u)
    have FIN := Lib.hid (show ∀ wz, Below w.heap.size w wz → RVOf T wz u { x with S := fun _ => none, down := false } [] from fun wz hz => by
      have h := HV.out.below hz (Nat.le_refl _)
      rw [hu]
      exact ⟨h.sn, rfl, rfl, h.fu, h.wr, h.fl, h.S, ⟨fun _ => rfl, fun a e => by cases e⟩⟩)
    clear g1 g2 gb hw3 hw4 hu hd
    go_enter Try.func27, Try.ntmps27
    go_upto_region 1 with fail
    rw [← HW2.out, ← HK2.out, ← HK1.out]
    go_upto_region 3 with fail
    rw [← HW3.out]
    go_upto_region 4 with fail
    rw [← HW4.out]
    go_wp2_with (first
      | (with_reducible show wpList _ _ _ _ _ _; refine wpList_load_all rfl 32 (.tmp 1) rfl ⟨k1, 0, none⟩ rfl u.cells _ GCS.out Try.underlying32 rfl GSZ.out ?_)
      | (with_reducible show wpList _ _ _ _ _ _; refine wpList_store_whole rfl 32 (.tmp 2) (.tmp 7) rfl k2 32 _ u.cells.toArray rfl rfl G2.out.row GSZ'.out GS0.out u.cells_one ?_))
    refine bodyPost_ret (results_cell_row rfl _ _ k2 32 u.cells.toArray (0, 0) _ rfl GR.out.1 Try.underlying32 rfl GSZ'.out) rfl ⟨u, rfl, FIN.out _ GR.out.2, GR.out.2⟩
  | false =>
    rw [hd] at c2
    rw [if_neg (by decide), if_neg (by decide)]
    obtain ⟨w3, hw3⟩ : ∃ w3, w3 = w2.setCell ⟨k1, 2, none⟩ (.bool false) := ⟨_, rfl⟩
    have g1 : RVB w3 k1 v := by
      have h := H1.out.set2 false
      rw [← hw3] at h
      have e : ({ v with down := false } : RV) = v := by have := HV.out.dn; rw [hd] at this; cases v; simp at this; subst this; rfl
      rwa [e] at h
    have g2 : RVB w3 k2 zeroR := by rw [hw3]; exact H2.out.other (fun e => HNE.out e.symm) _
    have gb : Below w.heap.size w w3 := by rw [hw3]; exact HB.out.setCell (p := ⟨k1, 2, none⟩) HKB.out.1 _
    have G2 := Lib.hid g2
    have GCS := Lib.hid g1.cs
    have HW3 := Lib.hid hw3
    have GR := Lib.hid (r5_ret (u := v) g2 gb HKB.out.2)
    clear g1 g2 gb hw3 hd
    go_enter Try.func27, Try.ntmps27
    go_upto_region 1 with fail
    rw [← HW2.out, ← HK2.out, ← HK1.out]
    go_upto_region 4 with fail
    rw [← HW3.out]
    go_wp2_with (first
      | (with_reducible show wpList _ _ _ _ _ _; refine wpList_load_all rfl 32 (.tmp 1) rfl ⟨k1, 0, none⟩ rfl v.cells _ GCS.out Try.underlying32 rfl HSZ.out ?_)
      | (with_reducible show wpList _ _ _ _ _ _; refine wpList_store_whole rfl 32 (.tmp 2) (.tmp 7) rfl k2 32 _ v.cells.toArray rfl rfl G2.out.row HSZ'.out HS0.out v.cells_one ?_))
    refine bodyPost_ret (results_cell_row rfl _ _ k2 32 v.cells.toArray (0, 0) _ rfl GR.out.1 Try.underlying32 rfl HSZ'.out) rfl ⟨v, rfl, HV.out.below GR.out.2 (Nat.le_refl _), GR.out.2⟩
set_option maxRecDepth 100000 in
set_option maxHeartbeats 3200000 in
theorem r5Put_any {T : Nat → Prop} {w : World} {v : RV} {x : DS} {W : List (Int × List UInt8)} (hv : RVOf T w v x W) (hT : ∀ k, T k → k < w.heap.size) (hfu : wfi x.fuse) (hW : W.length ≤ 1000000) (i : Int) (b : List UInt8) :
    Calls Try.prog 23 #[.agg v.cells.toArray, .int .i64 i, .string (str b)] w fun e w' => ∃ v', e = .returned (.tuple #[.agg v'.cells.toArray, .int .i64 (x.wcode i b.length)]) ∧ RVOf T w' v' (x.write i b) (putW x i b W) ∧ Below w.heap.size w w' := by
  have hbs := r5s_size b
  have hfz : wfi v.fuse := by have := bounds_i64 hfu; rw [hv.fu]; exact WalkArith.wf_i64 (by omega)
  have BU := Lib.hid (fun W => r5burn_any v hfz W)
  obtain ⟨h1, h2, hb, hsz⟩ := ent_spec w v
  obtain ⟨k1, hk1⟩ : ∃ k, k = w.heap.size := ⟨_, rfl⟩
  obtain ⟨k2, hk2⟩ : ∃ k, k = w.heap.size + 1 := ⟨_, rfl⟩
  obtain ⟨w2, hw2⟩ : ∃ w2, w2 = ent w v := ⟨_, rfl⟩
  rw [← hk1, ← hw2] at h1
  rw [← hk2, ← hw2] at h2
  rw [← hw2] at hb
  have hne : k1 ≠ k2 := by omega
  have hkb : w.heap.size ≤ k1 ∧ w.heap.size ≤ k2 := by omega
  have HKB := Lib.hid hkb
  have HNE := Lib.hid hne
  have H1 := Lib.hid h1
  have H2 := Lib.hid h2
  have HB := Lib.hid hb
  have HV := Lib.hid hv
  have HW2 := Lib.hid (ent_lit hw2)
  have HK1 := Lib.hid hk1
  have HK2 := Lib.hid hk2
  have HSZ := Lib.hid (Try.r5Size v)
  have HSZ' := Lib.hid (Try.r5Size' v)
  have HCS := Lib.hid h1.cs
  have HS0 := Lib.hid (h2.shape v)
  have c2 := h1.c2
  rw [hv.dn] at c2
  have c0 := h1.c0
  rw [hv.sn] at c0
  obtain ⟨so, hso⟩ : ∃ so, so = v.so := ⟨_, rfl⟩
  obtain ⟨sc, hsc⟩ : ∃ sc, sc = v.sc := ⟨_, rfl⟩
  rw [← hso, ← hsc] at c0
  have GR := Lib.hid (r5_ret (u := v) h2 hb hkb.2)
  have HFZ := Lib.hid hfz
  have HT := Lib.hid hT
  clear h1 h2 hb hsz hk1 hk2 hw2 hne hkb hv hso hsc hfz hT
  by_cases hz : x.wcode i b.length = 0
  · obtain ⟨hd, hh, hb128, h0⟩ := wcode_zero.1 hz
    have hin : 0 ≤ i ∧ i < (x.s.length : Int) := by simpa [DS.has] using hh
    have hn0 : ¬ i < 0 := by omega
    have hge : ¬ (x.s.length : Int) ≤ i := by omega
    have hpw : putW x i b W = W ++ [(i, b)] := by unfold putW; rw [if_pos hz]
    rw [hz, hpw, write_zero hz]
    rw [hd] at c2
    rw [hb128] at hbs
    have hvf : ¬ v.fuse = 0 := by rw [HV.out.fu]; omega
    have hde : decide (¬ v.fuse = 0) = true := decide_eq_true hvf
    obtain ⟨u, hu⟩ : ∃ u, u = burnV v := ⟨_, rfl⟩
    have BU0 := BU.out w2
    rw [← hu, hde] at BU0
    have hud : u.so = v.so ∧ u.sn = v.sn ∧ u.sc = v.sc ∧ u.wo = v.wo ∧ u.wn = v.wn ∧ u.wc = v.wc ∧ u.down = v.down ∧ u.wr = v.wr ∧ u.fl = v.fl := by
      rw [hu]
      unfold burnV
      rw [if_neg hvf]
      split <;> exact ⟨rfl, rfl, rfl, rfl, rfl, rfl, rfl, rfl, rfl⟩
    have huf : u.fuse = max x.spend.fuse (-1) := by
      rw [hu]
      unfold burnV DS.spend
      rw [if_neg hvf, if_neg h0, HV.out.fu]
      by_cases hp : 0 < x.fuse
      · rw [if_pos (by omega), if_pos hp]
        show max x.fuse (-1) - 1 = max (x.fuse - 1) (-1)
        omega
      · rw [if_neg (by omega), if_neg hp]
        exact HV.out.fu
    have hsp := DS.spend_ok h0
    have FIN := Lib.hid (show ∀ wz (wo' : Option Addr) (wc' : Nat), Below w.heap.size w wz → WrA T wz wo' (W ++ [(i, b)]) → RVOf T wz { u with wo := wo', wn := W.length + 1, wc := wc', wr := wrap64 (x.wr + 1) } { x.spend with S := upd x.S i b, wr := wrap64 (x.wr + 1) } (W ++ [(i, b)]) from fun wz wo' wc' hz hw => by
      have h := HV.out.below hz (Nat.le_refl _)
      obtain ⟨q1, q2, q3, q4, q5, q6, q7, q8, q9⟩ := hud
      refine ⟨?_, by simp, ?_, huf, rfl, ?_, ?_, hw⟩
      · show u.sn = x.spend.s.length
        rw [q2, h.sn, hsp.2.2.1]
      · show u.down = x.spend.down
        rw [q7, h.dn, hsp.1]
      · show u.fl = x.spend.fl
        rw [q9, h.fl, hsp.2.2.2.2]
      · show StrA T wz u.so x.spend.s
        rw [q1, hsp.2.2.1]
        exact h.S)
    have BUF := Lib.hid BU0
    obtain ⟨wo, hwo⟩ : ∃ wo, wo = u.wo := ⟨_, rfl⟩
    obtain ⟨wc, hwc⟩ : ∃ wc, wc = u.wc := ⟨_, rfl⟩
    have hun : u.wn = W.length := by rw [hud.2.2.2.2.1, HV.out.wn]
    have huw : u.wr = x.wr := by rw [hud.2.2.2.2.2.2.2.1, HV.out.wr]
    have HWA := Lib.hid (show WrA T w wo W by rw [hwo, hud.2.2.2.1]; exact HV.out.W)
    obtain ⟨i0, hi0, hz0, hz1, hz2⟩ := info_parts Try.infoWr5
    have HUE := Lib.hid (And.intro hwo hwc)
    have HUN := Lib.hid (And.intro hun huw)
    have HWL := Lib.hid hW
    clear BU BU0 hde hvf hpw hz hd hh hin hb128 h0 hu hud huf hsp hwo hwc hun huw hW
    obtain ⟨B, hB⟩ : ∃ B, B = str b := ⟨_, rfl⟩
    rw [← hB] at hbs ⊢
    have HBB := Lib.hid hB
    clear hB
    go_enter Try.func23, Try.ntmps23
    go_upto_region 1 with fail
    rw [← HW2.out, ← HK2.out, ← HK1.out]
    go_wp2_with (with_reducible show wpList _ _ _ _ _ _; refine wpList_load_all rfl 32 (.tmp 3) rfl ⟨k1, 0, none⟩ rfl v.cells _ HCS.out Try.underlying32 rfl HSZ.out ?_)
    refine BUF.out.mono ?_
    rintro e w3 ⟨rfl, hb3⟩
    have r13 := H1.out.below hb3 (Nat.le_refl _)
    have r23 := H2.out.below hb3 (Nat.le_refl _)
    obtain ⟨w4, hw4⟩ : ∃ w4, w4 = w3.setRow k1 u.cells.toArray := ⟨_, rfl⟩
    have g1 : RVB w4 k1 u := by rw [hw4]; exact r13.whole u
    have g2 : RVB w4 k2 zeroR := by rw [hw4]; exact (setRow_other _ _ _ _ (fun e => HNE.out e.symm)).trans r23
    have gb : Below w.heap.size w w4 := by rw [hw4]; exact below_setRow (HB.out.trans (hb3.mono HB.out.size)) HKB.out.1 _
    have R13 := Lib.hid r13
    have US := Lib.hid (r13.shape u)
    have GSZ := Lib.hid (Try.r5Size u)
    have GSZ' := Lib.hid (Try.r5Size' u)
    have HW4 := Lib.hid hw4
    have G1 := Lib.hid g1
    have G2 := Lib.hid g2
    have GB := Lib.hid gb
    clear hb3 r13 r23 hw4 g1 g2 gb c0 c2
    go_upto_region 12 with (with_reducible show wpList _ _ _ _ _ _; refine wpList_store_whole rfl 32 (.tmp 3) (.tmp 33) rfl k1 32 _ u.cells.toArray rfl rfl R13.out.row GSZ'.out US.out u.cells_one ?_; rw [← HW4.out])
    obtain ⟨w5, hw5⟩ : ∃ w5, w5 = w4.alloc (.cells #[] 80) := ⟨_, rfl⟩
    have hb5 : Below w4.heap.size w4 w5 := by rw [hw5]; exact (Below.refl _ _).alloc (Nat.le_refl _) _
    have hs45 : w.heap.size ≤ w4.heap.size := GB.out.size
    have hc1 : w5.cell? ⟨k1, 1, none⟩ = some (.slice wo W.length wc) := by
      have := (G1.out.below hb5 (Nat.le_refl _)).c1
      rwa [HUN.out.1, ← HUE.out.1, ← HUE.out.2] at this
    have c1 : (w4.alloc (.cells #[] 80)).cell? ⟨k1, 1, none⟩ = some (.slice wo W.length wc) := by rw [← hw5]; exact hc1
    have OWN := Lib.hid (show w5.ownsRow w4.heap.size 80 2 (.slice (some ⟨w4.heap.size, 0, none⟩) 0 0) 0 [] by rw [hw5]; exact own_empty w4 _ 2 (Nat.le_refl _))
    have SRC := Lib.hid ((HWA.out.frame (Frm.of_below (T := fun _ => False) (GB.out.trans (hb5.mono GB.out.size)) (Nat.le_refl _)) (fun _ _ e => e.elim)).src (wc := wc))
    have HB5 := Lib.hid hb5
    have HW5 := Lib.hid hw5
    obtain ⟨g5, hg5⟩ : ∃ g5, g5 = w4.heap.size := ⟨_, rfl⟩
    have HG5 := Lib.hid hg5
    have OWNG := Lib.hid (show w5.ownsRow g5 80 2 (.slice (some ⟨g5, 0, none⟩) 0 0) 0 [] by rw [hg5]; exact OWN.out)
    have HS45 := Lib.hid hs45
    have hle5 : g5 ≤ w5.heap.size := by have := hb5.size; omega
    have hwl : 0 + W.length ≤ maxLen := by have := HWL.out; unfold maxLen; omega
    have hwl2 : (0 + W.length) * 24 ≤ 140737488355328 := by have := HWL.out; omega
    have hwl3 : W.length + 1 ≤ maxLen := by have := HWL.out; unfold maxLen; omega
    have hwl4 : (W.length + 1) * 24 ≤ 140737488355328 := by have := HWL.out; omega
    have HL1 := Lib.hid hwl
    have HL2 := Lib.hid hwl2
    have HL3 := Lib.hid hwl3
    have HL4 := Lib.hid hwl4
    have HL5 := Lib.hid hle5
    clear hb5 hw5 hg5 hs45 hc1 OWN hwl hwl2 hwl3 hwl4 hle5
    go_wp2_with (at_builtin; rw [← HW5.out, ← HG5.out]; refine wpList_append_own_src _ rfl (.tmp 38) (.tmp 40) 30 30 rfl g5 80 i0 (.agg #[.int .i64 0, .string ⟨#[]⟩]) 2 24 Try.underlying30 hi0 hz0 hz1 hz2 rfl _ 0 [] rfl OWNG.out _ W.length (wcells W) rfl SRC.out HL1.out HL2.out HL5.out ?next)
    case next =>
      intro v6 w6 hG6
      obtain ⟨b6, o6⟩ := grew_below (w0 := w4) hG6 (fun k e => by rw [← HG5.out]; cases e; exact Nat.le_refl _) (by exact HB5.out)
      have hs6 := b6.size
      have OWN6 := Lib.hid hG6.1
      have HB6 := Lib.hid b6
      have HO6 := Lib.hid o6
      have HS6 := Lib.hid hs6
      have hle7 : g5 ≤ (w6.alloc (.cells #[.int .i64 i, .string B] 80)).heap.size := by have := HG5.out; rw [show (w6.alloc (.cells #[.int .i64 i, .string B] 80)).heap.size = w6.heap.size + 1 from Array.size_push _]; omega
      have HL7 := Lib.hid hle7
      clear hG6 b6 o6 hs6 hle7 c1
      go_wp2_with (at_builtin; refine wpList_append_own_src _ rfl (.tmp 41) (.tmp 45) 30 30 rfl g5 80 i0 (.agg #[.int .i64 0, .string ⟨#[]⟩]) 2 24 Try.underlying30 hi0 hz0 hz1 hz2 rfl _ W.length (wcells W) rfl (OWN6.out.alloc _) _ 1 [.int .i64 i, .string B] rfl (src5_wr w6 i B) HL3.out HL4.out HL7.out ?next)
      case next =>
        intro v8 w8 hG8
        obtain ⟨b8, o8⟩ := grew_below (w0 := w4) hG8 HO6.out (HB6.out.alloc HS6.out _)
        obtain ⟨ao, c, rfl⟩ := own_sl hG8.1
        have hwa : WrA (fun k => k < g5) w8 ao (W ++ [(i, b)]) := by
          have h := hG8.1
          have e : wcells W ++ [Value.int .i64 i, .string B] = wcells (W ++ [(i, b)]) := by rw [wcells_app, HBB.out]; rfl
          rw [e, show W.length + 1 = (W ++ [(i, b)]).length by simp] at h
          obtain ⟨so', c', e', hw⟩ := wrA_of (T := fun k => k < g5) h (fun k hk => hk)
          injection e' with e1 e2 e3
          subst e1
          exact hw
        have g18 := G1.out.below b8 (Nat.le_refl _)
        have d1 := g18.c1
        have f1 := g18.f 1
        obtain ⟨w9, hw9⟩ : ∃ w9, w9 = w8.setCell ⟨k1, 1, none⟩ (.slice ao (W.length + 1) c) := ⟨_, rfl⟩
        have g19 := g18.set1 ao (W.length + 1) c
        rw [← hw9] at g19
        have c4 := g19.c4
        have f4 := g19.f 4
        rw [show ({ u with wo := ao, wn := W.length + 1, wc := c } : RV).wr = x.wr from HUN.out.2] at c4
        obtain ⟨w10, hw10⟩ : ∃ w10, w10 = w9.setCell ⟨k1, 4, none⟩ (.int .i64 (wrap64 (x.wr + 1))) := ⟨_, rfl⟩
        obtain ⟨z, hz⟩ : ∃ z : RV, z = { u with wo := ao, wn := W.length + 1, wc := c, wr := wrap64 (x.wr + 1) } := ⟨_, rfl⟩
        have g110 : RVB w10 k1 z := by rw [hw10, hz]; exact g19.set4 _
        have g210 : RVB w10 k2 zeroR := by rw [hw10, hw9]; exact ((G2.out.below b8 (Nat.le_refl _)).other (fun e => HNE.out e.symm) _).other (fun e => HNE.out e.symm) _
        have gb10 : Below w.heap.size w w10 := by rw [hw10, hw9]; exact ((GB.out.trans (b8.mono GB.out.size)).setCell (p := ⟨k1, 1, none⟩) HKB.out.1 _).setCell (p := ⟨k1, 4, none⟩) HKB.out.1 _
        have HWZ := Lib.hid (show ∀ wz, wz = w10.setRow k2 z.cells.toArray → WrA T wz ao (W ++ [(i, b)]) from fun wz hz' => by
          have f : Frm (fun k => k = k1 ∨ k = k2) w8 wz := by
            rw [hz', hw10, hw9]
            exact (((Frm.refl _ w8).setCell (p := ⟨k1, 1, none⟩) (.inl (.inl rfl)) _).setCell (p := ⟨k1, 4, none⟩) (.inl (.inl rfl)) _).setRow (.inl (.inr rfl)) _
          refine ⟨hwa.1, fun a ha => ?_⟩
          obtain ⟨k, e, q1, q2, q3⟩ := hwa.2 a ha
          have h1 := G1.out.lt
          have h2 := G2.out.lt
          have h3 := HG5.out
          have h4 : g5 ≤ k := by omega
          have hkk : ¬ (k = k1 ∨ k = k2) := by omega
          exact ⟨k, e, Nat.lt_of_lt_of_le q1 f.size, fun hk => by have := HT.out k hk; have := HS45.out; omega, fun j hj => by rw [f.cell q1 hkk, f.cell q1 hkk]; exact q3 j hj⟩)
        have Z1 := Lib.hid g110.cs
        have Z2 := Lib.hid g210
        have ZS := Lib.hid (Try.r5Size z)
        have ZS' := Lib.hid (Try.r5Size' z)
        have Z0 := Lib.hid (g210.shape z)
        have ZR := Lib.hid (r5_ret (u := z) g210 gb10 HKB.out.2)
        have ZF := Lib.hid (show RVOf T (w10.setRow k2 z.cells.toArray) z { x.spend with S := upd x.S i b, wr := wrap64 (x.wr + 1) } (W ++ [(i, b)]) by
          have h := FIN.out _ ao c ZR.out.2 (HWZ.out _ rfl)
          rw [← hz] at h
          exact h)
        have HW9 := Lib.hid hw9
        have HW10 := Lib.hid hw10
        clear hG8 b8 o8 hwa g18 g19 g110 g210 gb10 hw9 hw10 hz
        go_upto_region 13 with fail
        rw [← HW9.out]
        go_upto_region 14 with fail
        rw [← HW10.out]
        go_wp2_with (first
          | (with_reducible show wpList _ _ _ _ _ _; refine wpList_load_all rfl 32 (.tmp 3) rfl ⟨k1, 0, none⟩ rfl z.cells _ Z1.out Try.underlying32 rfl ZS.out ?_)
          | (with_reducible show wpList _ _ _ _ _ _; refine wpList_store_whole rfl 32 (.tmp 6) (.tmp 52) rfl k2 32 _ z.cells.toArray rfl rfl Z2.out.row ZS'.out Z0.out z.cells_one ?_))
        refine bodyPost_ret (results_row_tmp rfl _ _ k2 32 z.cells (0, 0) _ _ rfl rfl ZR.out.1 Try.underlying32 rfl ZS.out) rfl ⟨z, rfl, ZF.out, ZR.out.2⟩
  · obtain ⟨B, hB⟩ : ∃ B, B = str b := ⟨_, rfl⟩
    rw [← hB] at hbs ⊢
    have SAME := Lib.hid (show x.write i b = x → RVOf T (w2.setRow k2 v.cells.toArray) v (x.write i b) (putW x i b W) from fun e => by
      unfold putW
      rw [e, if_neg hz]
      exact HV.out.below GR.out.2 (Nat.le_refl _))
    clear hB
    by_cases hd : x.down = true
    · have e1 : x.wcode i b.length = 50 := by unfold DS.wcode; rw [if_pos hd]
      have e2 : x.write i b = x := by unfold DS.write; rw [if_pos hd]
      have R := Lib.hid (SAME.out e2)
      rw [e1]
      rw [hd] at c2
      clear e1 e2 hz hd SAME
      go_enter Try.func23, Try.ntmps23
      go_upto_region 1 with fail
      rw [← HW2.out, ← HK2.out, ← HK1.out]
      go_wp2_with (first
        | (with_reducible show wpList _ _ _ _ _ _; refine wpList_load_all rfl 32 (.tmp 3) rfl ⟨k1, 0, none⟩ rfl v.cells _ HCS.out Try.underlying32 rfl HSZ.out ?_)
        | (with_reducible show wpList _ _ _ _ _ _; refine wpList_store_whole rfl 32 (.tmp 6) (.tmp 11) rfl k2 32 _ v.cells.toArray rfl rfl H2.out.row HSZ'.out HS0.out v.cells_one ?_))
      refine bodyPost_ret (results_row_tmp rfl _ _ k2 32 v.cells (0, 0) _ _ rfl rfl GR.out.1 Try.underlying32 rfl HSZ.out) rfl ⟨v, rfl, R.out, GR.out.2⟩
    · have hd' : x.down = false := by simpa using hd
      rw [hd'] at c2
      by_cases hh : x.has i = false
      · have e1 : x.wcode i b.length = 1 := by unfold DS.wcode; rw [if_neg hd, if_pos hh]
        have e2 : x.write i b = x := by unfold DS.write; rw [if_neg hd, if_pos hh]
        have R := Lib.hid (SAME.out e2)
        rw [e1]
        have hor : i < 0 ∨ (x.s.length : Int) ≤ i := by
          unfold DS.has at hh
          rw [Bool.and_eq_false_iff] at hh
          simp at hh
          omega
        clear e1 e2 hz hd SAME hh hd'
        by_cases hn0 : i < 0
        · clear hor
          go_enter Try.func23, Try.ntmps23
          go_upto_region 1 with fail
          rw [← HW2.out, ← HK2.out, ← HK1.out]
          go_wp2_with (first
            | (with_reducible show wpList _ _ _ _ _ _; refine wpList_load_all rfl 32 (.tmp 3) rfl ⟨k1, 0, none⟩ rfl v.cells _ HCS.out Try.underlying32 rfl HSZ.out ?_)
            | (with_reducible show wpList _ _ _ _ _ _; refine wpList_store_whole rfl 32 (.tmp 6) (.tmp 21) rfl k2 32 _ v.cells.toArray rfl rfl H2.out.row HSZ'.out HS0.out v.cells_one ?_))
          refine bodyPost_ret (results_row_tmp rfl _ _ k2 32 v.cells (0, 0) _ _ rfl rfl GR.out.1 Try.underlying32 rfl HSZ.out) rfl ⟨v, rfl, R.out, GR.out.2⟩
        · have hge : (x.s.length : Int) ≤ i := by omega
          clear hor
          go_enter Try.func23, Try.ntmps23
          go_upto_region 1 with fail
          rw [← HW2.out, ← HK2.out, ← HK1.out]
          go_wp2_with (first
            | (with_reducible show wpList _ _ _ _ _ _; refine wpList_load_all rfl 32 (.tmp 3) rfl ⟨k1, 0, none⟩ rfl v.cells _ HCS.out Try.underlying32 rfl HSZ.out ?_)
            | (with_reducible show wpList _ _ _ _ _ _; refine wpList_store_whole rfl 32 (.tmp 6) (.tmp 21) rfl k2 32 _ v.cells.toArray rfl rfl H2.out.row HSZ'.out HS0.out v.cells_one ?_))
          refine bodyPost_ret (results_row_tmp rfl _ _ k2 32 v.cells (0, 0) _ _ rfl rfl GR.out.1 Try.underlying32 rfl HSZ.out) rfl ⟨v, rfl, R.out, GR.out.2⟩
      · have hh' : x.has i = true := by simpa using hh
        have hin : 0 ≤ i ∧ i < (x.s.length : Int) := by simpa [DS.has] using hh'
        have hn0 : ¬ i < 0 := by omega
        have hge : ¬ (x.s.length : Int) ≤ i := by omega
        by_cases hl : 128 < b.length
        · have e1 : x.wcode i b.length = 2 := by unfold DS.wcode; rw [if_neg hd, if_neg hh, if_pos hl]
          have e2 : x.write i b = x := by unfold DS.write; rw [if_neg hd, if_neg hh, if_pos hl]
          have R := Lib.hid (SAME.out e2)
          rw [e1]
          have hli : (128 : Int) < (b.length : Int) := by omega
          clear e1 e2 hz hd SAME hh hd' hh' hin hl
          go_enter Try.func23, Try.ntmps23
          go_upto_region 1 with fail
          rw [← HW2.out, ← HK2.out, ← HK1.out]
          go_wp2_with (first
            | (with_reducible show wpList _ _ _ _ _ _; refine wpList_load_all rfl 32 (.tmp 3) rfl ⟨k1, 0, none⟩ rfl v.cells _ HCS.out Try.underlying32 rfl HSZ.out ?_)
            | (with_reducible show wpList _ _ _ _ _ _; refine wpList_store_whole rfl 32 (.tmp 6) (.tmp 25) rfl k2 32 _ v.cells.toArray rfl rfl H2.out.row HSZ'.out HS0.out v.cells_one ?_))
          refine bodyPost_ret (results_row_tmp rfl _ _ k2 32 v.cells (0, 0) _ _ rfl rfl GR.out.1 Try.underlying32 rfl HSZ.out) rfl ⟨v, rfl, R.out, GR.out.2⟩
        · by_cases hs : b.length < 128
          · have e1 : x.wcode i b.length = 6 := by unfold DS.wcode; rw [if_neg hd, if_neg hh, if_neg hl, if_pos hs]
            have e2 : x.write i b = x := by unfold DS.write; rw [if_neg hd, if_neg hh, if_neg hl, if_pos hs]
            have R := Lib.hid (SAME.out e2)
            rw [e1]
            have hli : ¬ (128 : Int) < (b.length : Int) := by omega
            have hsi : (b.length : Int) < 128 := by omega
            clear e1 e2 hz hd SAME hh hd' hh' hin hl hs
            go_enter Try.func23, Try.ntmps23
            go_upto_region 1 with fail
            rw [← HW2.out, ← HK2.out, ← HK1.out]
            go_wp2_with (first
              | (with_reducible show wpList _ _ _ _ _ _; refine wpList_load_all rfl 32 (.tmp 3) rfl ⟨k1, 0, none⟩ rfl v.cells _ HCS.out Try.underlying32 rfl HSZ.out ?_)
              | (with_reducible show wpList _ _ _ _ _ _; refine wpList_store_whole rfl 32 (.tmp 6) (.tmp 29) rfl k2 32 _ v.cells.toArray rfl rfl H2.out.row HSZ'.out HS0.out v.cells_one ?_))
            refine bodyPost_ret (results_row_tmp rfl _ _ k2 32 v.cells (0, 0) _ _ rfl rfl GR.out.1 Try.underlying32 rfl HSZ.out) rfl ⟨v, rfl, R.out, GR.out.2⟩
          · have h0 : x.fuse = 0 := by
              by_cases h0 : x.fuse = 0
              · exact h0
              · exact absurd (wcode_zero.2 ⟨hd', hh', by omega, h0⟩) hz
            have e1 : x.wcode i b.length = 50 := by unfold DS.wcode; rw [if_neg hd, if_neg hh, if_neg hl, if_neg hs, if_pos h0]
            have e2 : x.write i b = { x with fuse := -1, down := true } := by unfold DS.write DS.spend; rw [if_neg hd, if_neg hh, if_neg hl, if_neg hs, if_pos h0, if_pos h0]
            have e3 : putW x i b W = W := by unfold putW; rw [if_neg hz]
            rw [e1, e2, e3]
            have hb128 : b.length = 128 := by omega
            rw [hb128] at hbs
            have hvf : v.fuse = 0 := by rw [HV.out.fu, h0]; decide
            have hde : decide (¬ v.fuse = 0) = false := decide_eq_false (fun h => h hvf)
            obtain ⟨u, hu⟩ : ∃ u, u = burnV v := ⟨_, rfl⟩
            have BU0 := BU.out w2
            rw [← hu, hde] at BU0
            have hue : u = { v with down := true, fuse := -1 } := by rw [hu]; unfold burnV; rw [if_pos hvf]
            have FIN := Lib.hid (show ∀ wz, Below w.heap.size w wz → RVOf T wz u { x with fuse := -1, down := true } W from fun wz hz => by
              have h := HV.out.below hz (Nat.le_refl _)
              rw [hue]
              exact ⟨h.sn, h.wn, rfl, by show (-1 : Int) = max (-1) (-1); decide, h.wr, h.fl, h.S, h.W⟩)
            have BUF := Lib.hid BU0
            clear BU BU0 hde hvf e1 e2 e3 hz hd SAME hh hd' hh' hin hl hs h0 hb128 hu hue
            go_enter Try.func23, Try.ntmps23
            go_upto_region 1 with fail
            rw [← HW2.out, ← HK2.out, ← HK1.out]
            go_wp2_with (with_reducible show wpList _ _ _ _ _ _; refine wpList_load_all rfl 32 (.tmp 3) rfl ⟨k1, 0, none⟩ rfl v.cells _ HCS.out Try.underlying32 rfl HSZ.out ?_)
            refine BUF.out.mono ?_
            rintro e w3 ⟨rfl, hb3⟩
            have r13 := H1.out.below hb3 (Nat.le_refl _)
            have r23 := H2.out.below hb3 (Nat.le_refl _)
            obtain ⟨w4, hw4⟩ : ∃ w4, w4 = w3.setRow k1 u.cells.toArray := ⟨_, rfl⟩
            have g1 : RVB w4 k1 u := by rw [hw4]; exact r13.whole u
            have g2 : RVB w4 k2 zeroR := by rw [hw4]; exact (setRow_other _ _ _ _ (fun e => HNE.out e.symm)).trans r23
            have gb : Below w.heap.size w w4 := by rw [hw4]; exact below_setRow (HB.out.trans (hb3.mono HB.out.size)) HKB.out.1 _
            have R13 := Lib.hid r13
            have G2 := Lib.hid g2
            have GCS := Lib.hid g1.cs
            have US := Lib.hid (r13.shape u)
            have GSZ := Lib.hid (Try.r5Size u)
            have GSZ' := Lib.hid (Try.r5Size' u)
            have GS0 := Lib.hid (g2.shape u)
            have HW4 := Lib.hid hw4
            have GR2 := Lib.hid (r5_ret (u := u) g2 gb HKB.out.2)
            clear hb3 r13 r23 hw4 g1 g2 gb
            go_wp2_with (first
              | (with_reducible show wpList _ _ _ _ _ _; refine wpList_store_whole rfl 32 (.tmp 3) (.tmp 33) rfl k1 32 _ u.cells.toArray rfl rfl R13.out.row GSZ'.out US.out u.cells_one ?_; rw [← HW4.out])
              | (with_reducible show wpList _ _ _ _ _ _; refine wpList_load_all rfl 32 (.tmp 3) rfl ⟨k1, 0, none⟩ rfl u.cells _ GCS.out Try.underlying32 rfl GSZ.out ?_)
              | (with_reducible show wpList _ _ _ _ _ _; refine wpList_store_whole rfl 32 (.tmp 6) (.tmp 37) rfl k2 32 _ u.cells.toArray rfl rfl G2.out.row GSZ'.out GS0.out u.cells_one ?_))
            refine bodyPost_ret (results_row_tmp rfl _ _ k2 32 u.cells (0, 0) _ _ rfl rfl GR2.out.1 Try.underlying32 rfl GSZ.out) rfl ⟨u, rfl, FIN.out _ GR2.out.2, GR2.out.2⟩
end Go.Proofs.Ythcliaaoadfegaa.Dk
