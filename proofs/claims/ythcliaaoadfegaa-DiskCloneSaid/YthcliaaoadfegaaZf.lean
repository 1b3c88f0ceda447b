/- The reference's disk: Flush. -/
import Derived.Test.YthcliaaoadfegaaZd
import Derived.Test.YthcliaaoadfegaaZe
namespace Go.Proofs.Ythcliaaoadfegaa.Dk
open Go Go.RowKit
set_option linter.unusedVariables false
set_option linter.unusedSimpArgs false
theorem ownsRow_keep5 {w w' : World} {base : Nat} {e : TypeId} {size n : Nat} {v : Value} {xs : List Value} (h : w.ownsRow base e size v n xs) (hb : ∀ b, v.ownBlock = some b → b < w.heap.size → w'.heap[b]? = w.heap[b]?) : w'.ownsRow base e size v n xs := by
  refine ⟨h.1, ?_⟩
  rcases h.2 with h0 | ⟨g, cap, cur, rfl, hB, hh, r⟩
  · exact .inl h0
  · exact .inr ⟨g, cap, cur, rfl, hB, (hb g rfl (lt_of_row hh)).trans hh, r⟩
theorem ownsRow_below {w w' : World} {base : Nat} {e : TypeId} {size n : Nat} {v : Value} {xs : List Value} (h : w.ownsRow base e size v n xs) (hb : Below w.heap.size w w') : w'.ownsRow base e size v n xs := ownsRow_keep5 h (fun b _ hlt => hb.block b hlt)
/-- So many of the strings are laid. -/
def AcRel (L : List (List UInt8)) (g : Nat) (w4 : World) (sv u : Value) (wr : World) : Prop :=
  ∃ i : Nat, u = .int .i64 (i : Int) ∧ i ≤ L.length ∧ wr.ownsRow g 9 1 sv i ((L.take i).map fun b => .string (str b)) ∧ Below g w4 wr
theorem ac_step {L : List (List UInt8)} {g i : Nat} {w4 w5 w6 : World} {sv sv' : Value} {b : List UInt8} (hg : g = w4.heap.size) (hi : i < L.length) (hb : L.getD i [] = b) {xs : List Value} (hxs : xs = (L.take i).map fun b => .string (str b)) (hown : w5.ownsRow g 9 1 sv i xs) (hw : Below g w4 w5) (B : ByteArray) (hB : B = str b)
    (hG : Grew (w5.alloc (.cells #[.string B] 9)) w6 g 9 1 sv sv' (i + 1) (xs ++ [.string B])) : AcRel L g w4 sv' (.int .i64 ((i + 1 : Nat) : Int)) w6 := by
  subst hg hB hxs
  have ho : ∀ k, sv.ownBlock = some k → w4.heap.size ≤ k := fun k hk => by
    rcases hown.2 with ⟨rfl, _⟩ | ⟨gg, cap, cur, rfl, h1, _⟩
    · cases hk
    · cases hk; exact h1
  obtain ⟨b6, _⟩ := grew_below (w0 := w4) hG ho (hw.alloc hw.size _)
  refine ⟨i + 1, rfl, hi, ?_, b6⟩
  have e : (L.take (i + 1)).map (fun b => Value.string (str b)) = ((L.take i).map fun b => Value.string (str b)) ++ [.string (str b)] := by
    rw [List.take_add_one, List.getElem?_eq_getElem hi, List.map_append]
    rw [← hb]
    simp [List.getD, hi]
  rw [e]
  exact hG.1
theorem StrA.at {T : Nat → Prop} {w : World} {so : Option Addr} {s : List (List UInt8)} (h : StrA T w so s) {i : Nat} (hi : i < s.length) : ∃ k, so = some ⟨k, 0, none⟩ ∧ w.cell? ⟨k, i, none⟩ = some (.string (str (s.getD i []))) := by
  cases so with
  | none => have := h.1 rfl; rw [this] at hi; simp at hi
  | some a => obtain ⟨k, rfl, _, _, hc⟩ := h.2 a rfl; exact ⟨k, rfl, hc i hi⟩
theorem flush_eq {x : DS} (h1 : x.down = false) (h2 : ¬ x.fuse = 0) : x.flush = { x.spend with s := laid x.s x.S (fun _ => false), S := fun _ => none, fl := wrap64 (x.fl + 1) } := by
  unfold DS.flush
  rw [if_neg (by rw [h1]; decide), if_neg h2]
set_option maxRecDepth 100000 in
set_option maxHeartbeats 3200000 in
theorem r5Flush_any {T : Nat → Prop} {w : World} {v : RV} {x : DS} {W : List (Int × List UInt8)} (hv : RVOf T w v x W) (hL : Link x W) (hT : ∀ k, T k → k < w.heap.size) (hfu : wfi x.fuse) (hW : W.length ≤ 1000000) (hn : x.s.length ≤ 4096) :
    Calls Try.prog 25 #[.agg v.cells.toArray] w fun e w' => ∃ v', e = .returned (.tuple #[.agg v'.cells.toArray, .int .i64 x.fcode]) ∧ RVOf T w' v' x.flush (flushW x W) ∧ Below w.heap.size w w' := by
  have hfz : wfi v.fuse := by have := bounds_i64 hfu; rw [hv.fu]; exact WalkArith.wf_i64 (by omega)
  have BU := Lib.hid (fun W => r5burn_any v hfz W)
  obtain ⟨h1, h2, hb, hsz⟩ := ent_spec w v
  obtain ⟨k1, hk1⟩ : ∃ k, k = w.heap.size := ⟨_, rfl⟩
  obtain ⟨k2, hk2⟩ : ∃ k, k = w.heap.size + 1 := ⟨_, rfl⟩
  obtain ⟨w2, hw2⟩ : ∃ w2, w2 = ent w v := ⟨_, rfl⟩
  rw [← hk1, ← hw2] at h1
  rw [← hk2, ← hw2] at h2
  rw [← hw2] at hb
  have hne : k1 ≠ k2 := by omega
  have hkb : w.heap.size ≤ k1 ∧ w.heap.size ≤ k2 := by omega
  have HKB := Lib.hid hkb
  have HNE := Lib.hid hne
  have H1 := Lib.hid h1
  have H2 := Lib.hid h2
  have HB := Lib.hid hb
  have HV := Lib.hid hv
  have HW2 := Lib.hid (ent_lit hw2)
  have HK1 := Lib.hid hk1
  have HK2 := Lib.hid hk2
  have HSZ := Lib.hid (Try.r5Size v)
  have HSZ' := Lib.hid (Try.r5Size' v)
  have HCS := Lib.hid h1.cs
  have HS0 := Lib.hid (h2.shape v)
  have c2 := h1.c2
  rw [hv.dn] at c2
  have GR := Lib.hid (r5_ret (u := v) h2 hb hkb.2)
  have HT := Lib.hid hT
  have HL := Lib.hid hL
  have HN := Lib.hid hn
  clear h1 h2 hb hsz hk1 hk2 hw2 hne hkb hv hfz hT hL hn
  by_cases hd : x.down = true
  · have e1 : x.fcode = 50 := by unfold DS.fcode; rw [if_pos hd]
    have e2 : x.flush = x := by unfold DS.flush; rw [if_pos hd]
    have e3 : flushW x W = W := by unfold flushW; rw [e1, if_neg (by decide)]
    rw [e1, e2, e3]
    rw [hd] at c2
    clear e1 e2 e3 hd
    go_enter Try.func25, Try.ntmps25
    go_upto_region 1 with fail
    rw [← HW2.out, ← HK2.out, ← HK1.out]
    go_wp2_with (first
      | (with_reducible show wpList _ _ _ _ _ _; refine wpList_load_all rfl 32 (.tmp 1) rfl ⟨k1, 0, none⟩ rfl v.cells _ HCS.out Try.underlying32 rfl HSZ.out ?_)
      | (with_reducible show wpList _ _ _ _ _ _; refine wpList_store_whole rfl 32 (.tmp 2) (.tmp 11) rfl k2 32 _ v.cells.toArray rfl rfl H2.out.row HSZ'.out HS0.out v.cells_one ?_))
    refine bodyPost_ret (results_row_tmp rfl _ _ k2 32 v.cells (0, 0) _ _ rfl rfl GR.out.1 Try.underlying32 rfl HSZ.out) rfl ⟨v, rfl, HV.out.below GR.out.2 (Nat.le_refl _), GR.out.2⟩
  · have hd' : x.down = false := by simpa using hd
    rw [hd'] at c2
    obtain ⟨u, hu⟩ : ∃ u, u = burnV v := ⟨_, rfl⟩
    have BU0 := BU.out w2
    rw [← hu] at BU0
    by_cases h0 : x.fuse = 0
    · have e1 : x.fcode = 50 := by unfold DS.fcode; rw [if_neg hd, if_pos h0]
      have e2 : x.flush = { x with fuse := -1, down := true } := by unfold DS.flush DS.spend; rw [if_neg hd, if_pos h0, if_pos h0]
      have e3 : flushW x W = W := by unfold flushW; rw [e1, if_neg (by decide)]
      rw [e1, e2, e3]
      have hvf : v.fuse = 0 := by rw [HV.out.fu, h0]; decide
      have hde : decide (¬ v.fuse = 0) = false := decide_eq_false (fun h => h hvf)
      rw [hde] at BU0
      have hue : u = { v with down := true, fuse := -1 } := by rw [hu]; unfold burnV; rw [if_pos hvf]
      have FIN := Lib.hid (show ∀ wz, Below w.heap.size w wz → RVOf T wz u { x with fuse := -1, down := true } W from fun wz hz => by
        have h := HV.out.below hz (Nat.le_refl _)
        rw [hue]
        exact ⟨h.sn, h.wn, rfl, by show (-1 : Int) = max (-1) (-1); decide, h.wr, h.fl, h.S, h.W⟩)
      have BUF := Lib.hid BU0
      clear BU BU0 hde hvf e1 e2 e3 hd hd' h0 hu hue
      go_enter Try.func25, Try.ntmps25
      go_upto_region 1 with fail
      rw [← HW2.out, ← HK2.out, ← HK1.out]
      go_wp2_with (with_reducible show wpList _ _ _ _ _ _; refine wpList_load_all rfl 32 (.tmp 1) rfl ⟨k1, 0, none⟩ rfl v.cells _ HCS.out Try.underlying32 rfl HSZ.out ?_)
      refine BUF.out.mono ?_
      rintro e w3 ⟨rfl, hb3⟩
      have r13 := H1.out.below hb3 (Nat.le_refl _)
      have r23 := H2.out.below hb3 (Nat.le_refl _)
      obtain ⟨w4, hw4⟩ : ∃ w4, w4 = w3.setRow k1 u.cells.toArray := ⟨_, rfl⟩
      have g1 : RVB w4 k1 u := by rw [hw4]; exact r13.whole u
      have g2 : RVB w4 k2 zeroR := by rw [hw4]; exact (setRow_other _ _ _ _ (fun e => HNE.out e.symm)).trans r23
      have gb : Below w.heap.size w w4 := by rw [hw4]; exact below_setRow (HB.out.trans (hb3.mono HB.out.size)) HKB.out.1 _
      have R13 := Lib.hid r13
      have G2 := Lib.hid g2
      have GCS := Lib.hid g1.cs
      have US := Lib.hid (r13.shape u)
      have GSZ := Lib.hid (Try.r5Size u)
      have GSZ' := Lib.hid (Try.r5Size' u)
      have GS0 := Lib.hid (g2.shape u)
      have HW4 := Lib.hid hw4
      have GR2 := Lib.hid (r5_ret (u := u) g2 gb HKB.out.2)
      clear hb3 r13 r23 hw4 g1 g2 gb
      go_wp2_with (first
        | (with_reducible show wpList _ _ _ _ _ _; refine wpList_store_whole rfl 32 (.tmp 1) (.tmp 15) rfl k1 32 _ u.cells.toArray rfl rfl R13.out.row GSZ'.out US.out u.cells_one ?_; rw [← HW4.out])
        | (with_reducible show wpList _ _ _ _ _ _; refine wpList_load_all rfl 32 (.tmp 1) rfl ⟨k1, 0, none⟩ rfl u.cells _ GCS.out Try.underlying32 rfl GSZ.out ?_)
        | (with_reducible show wpList _ _ _ _ _ _; refine wpList_store_whole rfl 32 (.tmp 2) (.tmp 19) rfl k2 32 _ u.cells.toArray rfl rfl G2.out.row GSZ'.out GS0.out u.cells_one ?_))
      refine bodyPost_ret (results_row_tmp rfl _ _ k2 32 u.cells (0, 0) _ _ rfl rfl GR2.out.1 Try.underlying32 rfl GSZ.out) rfl ⟨u, rfl, FIN.out _ GR2.out.2, GR2.out.2⟩
    · have e1 : x.fcode = 0 := by unfold DS.fcode; rw [if_neg hd, if_neg h0]
      have e3 : flushW x W = [] := by unfold flushW; rw [e1, if_pos rfl]
      rw [e1, e3]
      obtain ⟨L, hLL⟩ : ∃ L, L = x.flush.s := ⟨_, rfl⟩
      have hLn : L.length = x.s.length := by rw [hLL, flush_eq hd' h0]; exact laid_length x.s x.S (fun _ => false)
      have hLg : ∀ i, i < x.s.length → L.getD i [] = (lastW W (i : Int)).getD (x.s.getD i []) := fun i hi => by rw [hLL, flush_get hd' h0 hi, HL.out.S]
      have hvf : ¬ v.fuse = 0 := by rw [HV.out.fu]; omega
      have hde : decide (¬ v.fuse = 0) = true := decide_eq_true hvf
      rw [hde] at BU0
      have hud : u.so = v.so ∧ u.sn = v.sn ∧ u.sc = v.sc ∧ u.wo = v.wo ∧ u.wn = v.wn ∧ u.wc = v.wc ∧ u.down = v.down ∧ u.wr = v.wr ∧ u.fl = v.fl := by
        rw [hu]
        unfold burnV
        rw [if_neg hvf]
        split <;> exact ⟨rfl, rfl, rfl, rfl, rfl, rfl, rfl, rfl, rfl⟩
      have huf : u.fuse = max x.spend.fuse (-1) := by
        rw [hu]
        unfold burnV DS.spend
        rw [if_neg hvf, if_neg h0, HV.out.fu]
        by_cases hp : 0 < x.fuse
        · rw [if_pos (by omega), if_pos hp]
          show max x.fuse (-1) - 1 = max (x.fuse - 1) (-1)
          omega
        · rw [if_neg (by omega), if_neg hp]
          exact HV.out.fu
      have hsp := DS.spend_ok h0
      obtain ⟨q1, q2, q3, q4, q5, q6, q7, q8, q9⟩ := hud
      have UV := Lib.hid (show ∀ wz, Below w.heap.size w wz → RVOf T wz u x.spend W from fun wz hz => by
        have h := HV.out.below hz (Nat.le_refl _)
        exact ⟨by rw [q2, h.sn, hsp.2.2.1], by rw [q5, h.wn], by rw [q7, h.dn, hsp.1], huf, by rw [q8, h.wr, hsp.2.2.2.1], by rw [q9, h.fl, hsp.2.2.2.2], by rw [q1, hsp.2.2.1]; exact h.S, by rw [q4]; exact h.W⟩)
      have FIN := Lib.hid (show ∀ wz (so' : Option Addr) (sc' : Nat), Below w.heap.size w wz → StrA T wz so' L → RVOf T wz { u with so := so', sn := L.length, sc := sc', wo := none, wn := 0, wc := 0, fl := wrap64 (x.fl + 1) } x.flush [] from fun wz so' sc' hz hw => by
        have h := HV.out.below hz (Nat.le_refl _)
        have e := flush_eq hd' h0
        refine ⟨by rw [hLL], rfl, ?_, ?_, ?_, ?_, by rw [← hLL]; exact hw, ⟨fun _ => rfl, fun a e => by cases e⟩⟩
        · rw [e]; show u.down = x.spend.down; rw [q7, h.dn, hsp.1]
        · rw [e]; exact huf
        · rw [e]; show u.wr = x.spend.wr; rw [q8, h.wr, hsp.2.2.2.1]
        · rw [e])
      have BUF := Lib.hid BU0
      obtain ⟨so, hso⟩ : ∃ so, so = u.so := ⟨_, rfl⟩
      obtain ⟨sc, hsc⟩ : ∃ sc, sc = u.sc := ⟨_, rfl⟩
      have HUE := Lib.hid (show u.so = so ∧ u.sn = L.length ∧ u.sc = sc ∧ u.fl = x.fl from ⟨hso.symm, by rw [q2, HV.out.sn, hLn], hsc.symm, by rw [q9, HV.out.fl]⟩)
      have HSA := Lib.hid (show StrA T w so x.s by rw [hso, q1]; exact HV.out.S)
      obtain ⟨i0, hi0, hz0, hz1, hz2⟩ := info_parts Try.infoStr
      have HLN := Lib.hid hLn
      have HLG := Lib.hid hLg
      have HWL := Lib.hid hW
      have HL6 := Lib.hid (show L.length ≤ 4096 by rw [hLn]; exact HN.out)
      clear BU BU0 hde hvf e1 e3 hd hd' h0 hu q1 q2 q3 q4 q5 q6 q7 q8 q9 huf hsp hso hsc hW hLL hLn hLg
      go_enter Try.func25, Try.ntmps25
      go_upto_region 1 with fail
      rw [← HW2.out, ← HK2.out, ← HK1.out]
      go_wp2_with (with_reducible show wpList _ _ _ _ _ _; refine wpList_load_all rfl 32 (.tmp 1) rfl ⟨k1, 0, none⟩ rfl v.cells _ HCS.out Try.underlying32 rfl HSZ.out ?_)
      refine BUF.out.mono ?_
      rintro e w3 ⟨rfl, hb3⟩
      have r13 := H1.out.below hb3 (Nat.le_refl _)
      have r23 := H2.out.below hb3 (Nat.le_refl _)
      obtain ⟨w4, hw4⟩ : ∃ w4, w4 = w3.setRow k1 u.cells.toArray := ⟨_, rfl⟩
      have g1 : RVB w4 k1 u := by rw [hw4]; exact r13.whole u
      have g2 : RVB w4 k2 zeroR := by rw [hw4]; exact (setRow_other _ _ _ _ (fun e => HNE.out e.symm)).trans r23
      have gb : Below w.heap.size w w4 := by rw [hw4]; exact below_setRow (HB.out.trans (hb3.mono HB.out.size)) HKB.out.1 _
      obtain ⟨g4, hg4⟩ : ∃ g4, g4 = w4.heap.size := ⟨_, rfl⟩
      have R13 := Lib.hid r13
      have US := Lib.hid (r13.shape u)
      have GSZ := Lib.hid (Try.r5Size u)
      have GSZ' := Lib.hid (Try.r5Size' u)
      have HW4 := Lib.hid hw4
      have G1 := Lib.hid g1
      have G2 := Lib.hid g2
      have GB := Lib.hid gb
      have HG4 := Lib.hid hg4
      have HG4' := Lib.hid (show k1 < g4 ∧ k2 < g4 ∧ w.heap.size ≤ g4 from by have := g1.lt; have := g2.lt; have := gb.size; omega)
      have A0 := Lib.hid (show AcRel L g4 w4 (.slice none 0 0) (.int .i64 0) w4 from ⟨0, rfl, Nat.zero_le _, World.ownsRow_nil w4 _ _ _, Below.refl _ _⟩)
      clear hb3 r13 r23 hw4 g1 g2 gb c2 hg4
      go_wp2_with (with_reducible show wpList _ _ _ _ _ _; refine wpList_store_whole rfl 32 (.tmp 1) (.tmp 15) rfl k1 32 _ u.cells.toArray rfl rfl R13.out.row GSZ'.out US.out u.cells_one ?_; rw [← HW4.out])
      go_loopw [5, 6] (fun sv z wr => AcRel L g4 w4 sv z wr) (fun _ z _ => L.length - (intOf z).toNat)
      case atStart => exact A0.out
      case round =>
        obtain ⟨wq, rfl⟩ : ∃ wq : World, wq = wr := ⟨_, rfl⟩
        obtain ⟨i, rfl, hi, hown, hbr⟩ := hrel
        have hbw : Below w.heap.size w wq := GB.out.trans (hbr.mono HG4'.out.2.2)
        have r1 : RVB wq k1 u := (hbr.block k1 HG4'.out.1).trans G1.out
        have r2 : RVB wq k2 zeroR := (hbr.block k2 HG4'.out.2.1).trans G2.out
        have HOWN := Lib.hid hown
        have HBR := Lib.hid hbr
        have HBW := Lib.hid hbw
        have R1 := Lib.hid r1
        have R2 := Lib.hid r2
        have LC := Lib.hid r1.cs
        have c0 : wq.cell? ⟨k1, 0, none⟩ = some (.slice so L.length sc) := by have := r1.c0; rwa [HUE.out.1, HUE.out.2.1, HUE.out.2.2.1] at this
        clear hown hbr hbw r1 r2 A0
        by_cases hil : i < L.length
        · have hii : (i : Int) < (L.length : Int) := by omega
          have LA := Lib.hid (r5last_any (UV.out wq HBW.out) HWL.out (i : Int))
          obtain ⟨ks, rfl, hcell⟩ := HSA.out.at (i := i) (by rw [← HLN.out]; exact hil)
          have hcell' := hcell
          have hks : ks < w.heap.size := World.block_lt_of_cell? w _ hcell
          have hg := HLG.out i (by rw [← HLN.out]; exact hil)
          go_wp2_with (with_reducible show wpList _ _ _ _ _ _; refine wpList_load_all rfl 32 (.tmp 1) rfl ⟨k1, 0, none⟩ rfl u.cells _ LC.out Try.underlying32 rfl GSZ.out ?_)
          refine LA.out.mono ?_
          rintro e w5 ⟨rfl, hb5⟩
          have d0 : w5.cell? ⟨k1, 0, none⟩ = some (.slice (some ⟨ks, 0, none⟩) L.length sc) := by rw [hb5.cell (p := ⟨k1, 0, none⟩) R1.out.lt]; exact c0
          have dk : w5.cell? ⟨ks, i, none⟩ = some (.string (str (x.s.getD i []))) := by
            have h := HBW.out.trans (hb5.mono HBW.out.size)
            rw [h.cell (p := ⟨ks, i, none⟩) hks]
            exact hcell'
          obtain ⟨xs, hxs⟩ : ∃ xs : List Value, xs = (L.take i).map fun b => .string (str b) := ⟨_, rfl⟩
          have hw5 := ownsRow_below HOWN.out hb5
          rw [← hxs] at hw5
          have OW5 := Lib.hid hw5
          have HXS := Lib.hid hxs
          clear hw5 hxs
          have BR5 := Lib.hid (HBR.out.trans (hb5.mono (show g4 ≤ wq.heap.size by have := HBR.out.size; have := HG4.out; omega)))
          have hz5 : g4 ≤ w5.heap.size := by have := BR5.out.size; have := HG4.out; omega
          have HZ5 := Lib.hid hz5
          have L1 := Lib.hid (show i + 1 ≤ maxLen by have := HL6.out; unfold maxLen; omega)
          have L2 := Lib.hid (show (i + 1) * 16 ≤ 140737488355328 by have := HL6.out; omega)
          obtain ⟨b0, hb0⟩ : ∃ b0, b0 = x.s.getD i [] := ⟨_, rfl⟩
          rw [← hb0] at dk hg
          clear hb5 c0 hcell hcell' LA hb0 hz5
          cases hlw : lastW W (i : Int) with
          | none =>
            rw [hlw] at hg
            have HGB := Lib.hid (show L.getD i [] = b0 from hg)
            clear hlw hg
            go_wp2_with (at_builtin; refine wpList_append_own_src _ rfl (.tmp 40) (.tmp 42) 29 29 rfl g4 9 i0 (.string ⟨#[]⟩) 1 16 Try.underlying29 hi0 hz0 hz1 hz2 rfl _ i xs rfl (OW5.out.alloc _) _ 1 [.string (str b0)] rfl (src5_one w5 (str b0)) L1.out L2.out ?b3 ?next)
            case b3 => have := HZ5.out; rw [show (w5.alloc (.cells #[.string (str b0)] 9)).heap.size = w5.heap.size + 1 from Array.size_push _]; omega
            case next =>
              intro v6 w6 hG6
              have RL := Lib.hid (ac_step HG4.out hil HGB.out HXS.out OW5.out BR5.out (str b0) rfl hG6)
              have hl6 := HL6.out
              clear hG6
              go_wp2_with fail
              exact ⟨RL.out, by simp [intOf]; omega⟩
          | some l =>
            rw [hlw] at hg
            have HGB := Lib.hid (show L.getD i [] = l from hg)
            clear hlw hg
            go_wp2_with (at_builtin; refine wpList_append_own_src _ rfl (.tmp 40) (.tmp 42) 29 29 rfl g4 9 i0 (.string ⟨#[]⟩) 1 16 Try.underlying29 hi0 hz0 hz1 hz2 rfl _ i xs rfl (OW5.out.alloc _) _ 1 [.string (str l)] rfl (src5_one w5 (str l)) L1.out L2.out ?b3 ?next)
            case b3 => have := HZ5.out; rw [show (w5.alloc (.cells #[.string (str l)] 9)).heap.size = w5.heap.size + 1 from Array.size_push _]; omega
            case next =>
              intro v6 w6 hG6
              have RL := Lib.hid (ac_step HG4.out hil HGB.out HXS.out OW5.out BR5.out (str l) rfl hG6)
              have hl6 := HL6.out
              clear hG6
              go_wp2_with fail
              exact ⟨RL.out, by simp [intOf]; omega⟩
        · obtain rfl : i = L.length := by omega
          have hii : ¬ (L.length : Int) < (L.length : Int) := by omega
          have hown := HOWN.out
          rw [List.take_length] at hown
          obtain ⟨ao, c, rfl⟩ := own_sl hown
          obtain ⟨so', c', e', hst⟩ := strA_of (w0 := w) (T := fun k => k < g4) hown (fun k hk => hk)
          injection e' with e1 e2 e3
          subst e1 e3
          have f0 := R1.out.f 0
          obtain ⟨w6, hw6⟩ : ∃ w6, w6 = wq.setCell ⟨k1, 0, none⟩ (.slice ao L.length c) := ⟨_, rfl⟩
          have g16 := R1.out.set0 ao L.length c
          rw [← hw6] at g16
          have c16 := g16.c1
          have f16 := g16.f 1
          obtain ⟨w7, hw7⟩ : ∃ w7, w7 = w6.setCell ⟨k1, 1, none⟩ (.slice none 0 0) := ⟨_, rfl⟩
          have g17 := g16.set1 none 0 0
          rw [← hw7] at g17
          have c57 := g17.c5
          have f57 := g17.f 5
          rw [show ({ u with so := ao, sn := L.length, sc := c, wo := none, wn := 0, wc := 0 } : RV).fl = x.fl from HUE.out.2.2.2] at c57
          obtain ⟨w8, hw8⟩ : ∃ w8, w8 = w7.setCell ⟨k1, 5, none⟩ (.int .i64 (wrap64 (x.fl + 1))) := ⟨_, rfl⟩
          obtain ⟨z, hz⟩ : ∃ z : RV, z = { u with so := ao, sn := L.length, sc := c, wo := none, wn := 0, wc := 0, fl := wrap64 (x.fl + 1) } := ⟨_, rfl⟩
          have g18 : RVB w8 k1 z := by rw [hw8, hz]; exact g17.set5 _
          have g28 : RVB w8 k2 zeroR := by rw [hw8, hw7, hw6]; exact ((R2.out.other (fun e => HNE.out e.symm) _).other (fun e => HNE.out e.symm) _).other (fun e => HNE.out e.symm) _
          have gb8 : Below w.heap.size w w8 := by rw [hw8, hw7, hw6]; exact ((HBW.out.setCell (p := ⟨k1, 0, none⟩) HKB.out.1 _).setCell (p := ⟨k1, 1, none⟩) HKB.out.1 _).setCell (p := ⟨k1, 5, none⟩) HKB.out.1 _
          have HWZ : StrA T (w8.setRow k2 z.cells.toArray) ao L := by
            have f : Frm (fun k => k = k1 ∨ k = k2) wq (w8.setRow k2 z.cells.toArray) := by
              rw [hw8, hw7, hw6]
              exact ((((Frm.refl _ wq).setCell (p := ⟨k1, 0, none⟩) (.inl (.inl rfl)) _).setCell (p := ⟨k1, 1, none⟩) (.inl (.inl rfl)) _).setCell (p := ⟨k1, 5, none⟩) (.inl (.inl rfl)) _).setRow (.inl (.inr rfl)) _
            exact (hst.frame f (fun k _ hk => by have := HG4'.out; rcases hk with rfl | rfl <;> omega)).more (fun k _ hk => by have := HT.out k hk; have := HG4'.out; omega)
          have Z1 := Lib.hid g18.cs
          have Z2 := Lib.hid g28
          have ZS := Lib.hid (Try.r5Size z)
          have ZS' := Lib.hid (Try.r5Size' z)
          have Z0 := Lib.hid (g28.shape z)
          have ZR := Lib.hid (r5_ret (u := z) g28 gb8 HKB.out.2)
          have ZF := Lib.hid (show RVOf T (w8.setRow k2 z.cells.toArray) z x.flush [] by
            have h := FIN.out _ ao c ZR.out.2 HWZ
            rw [← hz] at h
            exact h)
          have HW6 := Lib.hid hw6
          have HW7 := Lib.hid hw7
          have HW8 := Lib.hid hw8
          clear hown hst g16 g17 g18 g28 gb8 hw6 hw7 hw8 hz HWZ
          go_upto_region 15 with fail
          rw [← HW6.out]
          go_upto_region 16 with fail
          rw [← HW7.out]
          go_upto_region 17 with fail
          rw [← HW8.out]
          go_wp2_with (first
            | (with_reducible show wpList _ _ _ _ _ _; refine wpList_load_all rfl 32 (.tmp 1) rfl ⟨k1, 0, none⟩ rfl z.cells _ Z1.out Try.underlying32 rfl ZS.out ?_)
            | (with_reducible show wpList _ _ _ _ _ _; refine wpList_store_whole rfl 32 (.tmp 2) (.tmp 51) rfl k2 32 _ z.cells.toArray rfl rfl Z2.out.row ZS'.out Z0.out z.cells_one ?_))
          refine bodyPost_ret (results_row_tmp rfl _ _ k2 32 z.cells (0, 0) _ _ rfl rfl ZR.out.1 Try.underlying32 rfl ZS.out) rfl ⟨z, rfl, ZF.out, ZR.out.2⟩
end Go.Proofs.Ythcliaaoadfegaa.Dk
