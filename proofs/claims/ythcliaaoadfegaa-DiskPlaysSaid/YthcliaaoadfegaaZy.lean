/- The laws' own play: its walk. -/
import Derived.Test.YthcliaaoadfegaaZw
import Derived.Deep.CutBlock
import Derived.Test.YthcliaaoadfegaaUk
namespace Go.Proofs.Ythcliaaoadfegaa.Dk
open Go Go.RowKit
set_option linter.unusedVariables false
set_option linter.unusedSimpArgs false
section
variable {P : Program} {Q : Exit → Act → World → Prop}
theorem slot_loadZ {o : Oper} {a : Act} {w : World} {K : Act → World → Prop} (ty : TypeId) (x : Operand) (ho : o.op = .load ty x)
    (p : Addr) (hx : a.eval x = .pointer (some p)) (cs : List Value) (d : TypeDesc) (hc : ∀ j v, cs[j]? = some v → w.cell? (p.add j) = some v)
    (hu : P.underlying ty = some d) (hd : d.isRow = true) (hi : (P.info? ty).map (·.size) = some cs.length) (h : K (a.put o.dst (.agg cs.toArray)) w) : o.wp P a w K Q := by
  unfold Oper.wp execOp
  simp only [ho, hx, Instr.loadAt, Instr.sureAddr, Sem.run_bind, Sem.run_pure, Result.andThen_ok, run_loadVar_all w p ty cs d hc hu hd hi]
  exact h
theorem slot_storeZ {o : Oper} {a : Act} {w : World} {K : Act → World → Prop} (ty : TypeId) (x y : Operand) (ho : o.op = .store ty x y)
    (g : Nat) (t : TypeId) (old cells : Array Value) (hx : a.eval x = .pointer (some ⟨g, 0, none⟩)) (hy : a.eval y = .agg cells) (hg : w.heap[g]? = some (.cells old t (0, 0)))
    (hi : (P.info? ty).map (·.size) = some cells.size) (hs : old.size = cells.size) (h1 : cells.all (·.oneCell') = true)
    (h : K (a.put o.dst undef) (w.setRow g cells)) : o.wp P a w K Q := by
  unfold Oper.wp execOp
  simp only [ho, hx, hy, Instr.storeAt, Instr.sureAddr, Sem.run_bind, Sem.run_pure, Result.andThen_ok, run_storeVar_row w g t ty old cells hg hi hs h1]
  exact h
theorem runZ {o : Oper} {a : Act} {w : World} {r : Result Next} (ev : Operand → Value) (h1 : (execOp a.eval o).run P w = (execOp ev o).run P w) (h2 : (execOp ev o).run P w = r) : (execOp a.eval o).run P w = r := h1.trans h2
end
def gdZ (v : Value) (want : Bool) : Bool := (match v with | .bool b => some b | _ => none) == some want
/-- What the operations of play's last region leave in their slots. -/
def pyF (d : Nat) (code : Int) (v' : RV) (j : Nat) (v : Value) (_ : World) : Prop := match j with
  | 0 | 6 => v = .agg v'.cells.toArray
  | 1 | 2 => v = .int .i64 code
  | 3 | 4 | 7 | 8 | 10 => v = .bool true
  | 5 => v = .pointer (some ⟨d, 0, none⟩)
  | _ => True
theorem stKeep {F : World → Prop} {w : World} {k6 i : Nat} {a b : RV} {L : Nat → Bool} (h : F w ∧ RVB w k6 (if L 9 = true then a else b)) (hi : 9 ≠ i) : F w ∧ RVB w k6 (if Go.Proofs.Ythcliaaoadfegaa.upd L i true 9 = true then a else b) := by
  rw [Go.Proofs.Ythcliaaoadfegaa.upd_ne _ _ hi]
  exact h
theorem read_nil {x : DS} {i : Int} (h : ¬ (x.read i).2 = 0) : (x.read i).1 = [] := by
  unfold DS.read DS.sure at *
  split at h
  · rename_i hd; rw [if_pos hd]
  · rename_i hd
    rw [if_neg hd]
    split at h
    · exact absurd rfl h
    · split at h
      · rename_i hh; rw [if_pos hh]
      · exact absurd rfl h
theorem ans_sl {x : DS} {i : Int} {w0 w : World} {v : Value} (h : Ans w0 w v (x.read i)) : ∃ ao c, v = .slice ao (x.read i).1.length c ∧ Sl w v (x.read i).1 := by
  unfold Ans at h
  by_cases h0 : (x.read i).2 = 0
  · rw [if_pos h0] at h
    obtain ⟨g, rfl, _, hr, hl⟩ := h
    refine ⟨some ⟨g, 0, none⟩, 128, by rw [hl], some ⟨g, 0, none⟩, 128, by rw [hl], (fun e => by cases e), fun a e j u hu => ?_⟩
    cases e
    rw [Addr.add_mid, cell_of_row w g (0 + j) _ _ _ hr, Nat.zero_add]
    simpa using hu
  · rw [if_neg h0] at h
    rw [read_nil h0]
    exact ⟨none, 0, h, none, 0, h, fun _ => rfl, fun a e => by cases e⟩
theorem sl_frame {w w' : World} {T : Nat → Prop} {ao : Option Addr} {c : Nat} {b : List UInt8} (h : Sl w (.slice ao b.length c) b) (f : Frm T w w') (hk : 0 < b.length → ∀ a, ao = some a → ¬ T a.block) : Sl w' (.slice ao b.length c) b := by
  obtain ⟨ao', c', e, hno, hc⟩ := h
  injection e with e1 e2 e3
  subst e1
  refine ⟨ao, c, rfl, hno, fun a ha j u hu => ?_⟩
  have h1 := hc a ha j u hu
  have hj : j < b.length := by have := (List.getElem?_eq_some_iff.1 hu).1; simpa [bvs] using this
  have hlt := World.block_lt_of_cell? w _ h1
  have eb : (a.add j).block = a.block := by unfold Addr.add; split <;> rfl
  exact (World.cell?_of_block (f.block _ hlt (by rw [eb]; exact hk (by omega) a ha))).trans h1
theorem nums_frame {w w' : World} {T : Nat → Prop} {ko : Option Addr} {kc : Nat} {K : List Int} (h : Nums w (.slice ko K.length kc) K) (f : Frm T w w') (hk : 0 < K.length → ∀ a, ko = some a → ¬ T a.block) : Nums w' (.slice ko K.length kc) K := by
  obtain ⟨ao, c, e, hc, hw⟩ := h
  injection e with e1 e2 e3
  subst e1
  refine ⟨ko, c, by rw [e3], fun j hj => ?_, hw⟩
  obtain ⟨a, rfl, h1⟩ := hc j hj
  refine ⟨a, rfl, ?_⟩
  have hlt := World.block_lt_of_cell? w _ h1
  have eb : (a.add j).block = a.block := by unfold Addr.add; split <;> rfl
  exact (World.cell?_of_block (f.block _ hlt (by rw [eb]; exact hk (by omega) a rfl))).trans h1
set_option maxRecDepth 100000 in
set_option maxHeartbeats 8000000 in
theorem play5_any {T : Nat → Prop} {w : World} {d g m n : Nat} {x : DS} {v : RV} {W : List (Int × List UInt8)} {p : OpD} (hD : DiskAt Try.prog w d g m n x) (hv : RVOf T w v x W) (hL : Link x W) (hO : ∀ k, own3 d g m k → T k) (hT : ∀ k, T k → k < w.heap.size) (hn : n ≤ 1000000) (hW : W.length ≤ 900000)
    (hp : p.Good w) (hfit : p.fits = true) (hpd : 0 < p.data.length → ∀ a, p.ao = some a → ¬ own3 d g m a.block) (hpk : 0 < p.keep.length → ∀ a, p.ko = some a → ¬ own3 d g m a.block) :
    Calls Try.prog 9 #[.pointer (some ⟨d, 0, none⟩), .agg v.cells.toArray, .agg p.cells.toArray] w fun e w' => ∃ (x' : DS) (v' : RV) (W' : List (Int × List UInt8)) (n' : Nat), e = .returned (.tuple #[.agg v'.cells.toArray, .bool true]) ∧ DiskAt Try.prog w' d g m n' x' ∧ RVOf T w' v' x' W' ∧ Link x' W' ∧ Frm (own3 d g m) w w' ∧ n' ≤ n + 1 ∧ W'.length ≤ W.length + 1 ∧ x'.s.length = x.s.length := by
  obtain ⟨h4, h5, h6, hb⟩ := pent_spec w v p
  obtain ⟨k4, hk4⟩ : ∃ k, k = w.heap.size := ⟨_, rfl⟩
  obtain ⟨k5, hk5⟩ : ∃ k, k = w.heap.size + 1 := ⟨_, rfl⟩
  obtain ⟨k6, hk6⟩ : ∃ k, k = w.heap.size + 1 + 1 := ⟨_, rfl⟩
  obtain ⟨w3, hw3⟩ : ∃ w3, w3 = pent w v p := ⟨_, rfl⟩
  rw [← hk4, ← hw3] at h4
  rw [← hk5, ← hw3] at h5
  rw [← hk6, ← hw3] at h6
  rw [← hw3] at hb
  obtain ⟨T', hT'⟩ : ∃ T' : Nat → Prop, T' = fun k => T k ∨ k = k4 ∨ k = k5 ∨ k = k6 := ⟨_, rfl⟩
  have l6 := lt_of_row h6
  have ho : ∀ k, own3 d g m k → T' k ∧ k < w.heap.size := fun k hk => ⟨by rw [hT']; exact .inl (hO k hk), hT k (hO k hk)⟩
  have P0 := Lib.hid (show Py0 T' w w3 d g m k4 k5 k6 n x v W p from ⟨hD.below hb (Nat.le_refl _), h4, h5, h6, (hv.more (fun k hk e => by
      rw [hT'] at e
      rcases e with e | e | e | e
      · exact e
      · omega
      · omega
      · omega)).below hb (Nat.le_refl _), hL, hb, ho, (fun k hk => by
      rw [hT'] at hk
      have := hb.size
      rcases hk with e | e | e | e
      · have := hT k e; omega
      · omega
      · omega
      · omega), ⟨by omega, by omega, by omega, by omega, by omega, by omega, by rw [hT']; exact .inr (.inl rfl)⟩, hn, hW, hp.below hb (Nat.le_refl _), hfit, hpd, hpk⟩)
  have HTT := Lib.hid (show ∀ k, T k → T' k from fun k hk => by rw [hT']; exact .inl hk)
  have HT6 := Lib.hid (show T' k6 from by rw [hT']; exact .inr (.inr (.inr rfl)))
  have HW3 := Lib.hid (pent_lit hw3)
  have HK4 := Lib.hid hk4
  have HK5 := Lib.hid hk5
  have HK6 := Lib.hid hk6
  have HSZ := Lib.hid (Try.r5Size v)
  have HCS := Lib.hid h4.cs
  have hfk : p.keep.length ≤ 20 ∧ p.data.length ≤ 300 := by
    unfold OpD.fits at hfit
    simp only [Bool.and_eq_true, decide_eq_true_eq] at hfit
    exact ⟨hfit.1.2, hfit.1.1⟩
  have hkl : p.keep.length < 1000000 := by omega
  have NK := Lib.hid (show (∀ j, j < p.keep.length → ∃ a, p.ko = some a ∧ w3.cell? (a.add j) = some (.int .i64 (p.keep.getD j 0)) ∧ ¬ own3 d g m (a.add j).block) ∧ True ∧ (∀ z ∈ p.keep, wfi z) from by
    obtain ⟨ao, c, e, hc, hw⟩ := P0.out.good.keep
    injection e with e1 e2 e3
    refine ⟨fun j hj => ?_, trivial, hw⟩
    obtain ⟨a, ha, h1⟩ := hc j hj
    refine ⟨a, e1.trans ha, h1, ?_⟩
    have eb : (a.add j).block = a.block := by unfold Addr.add; split <;> rfl
    rw [eb]
    exact hpk (by omega) a (e1.trans ha))
  have q0 := opRow0 h5
  obtain ⟨kd, hkd⟩ : ∃ kd, kd = p.kind := ⟨_, rfl⟩
  rw [← hkd] at q0
  have HKD := Lib.hid hkd
  clear h4 h5 h6 hb hk4 hk5 hk6 hw3 hT' l6 ho hD hv hL hO hT hn hW hp hfit hpd hpk hkd
  go_enter Try.func9, Try.ntmps9
  go_upto_region 1 with fail
  rw [← HW3.out, ← HK6.out, ← HK5.out, ← HK4.out]
  go_upto_block 0 with fail
  go_cut [8, 9] (fun a b wx => PyRel T' w d g m k4 k6 n W.length x.s.length a b wx)
  case first =>
    obtain rfl | rfl | rfl | rfl | rfl | rfl | rfl | ⟨n0, n1, n2, n3, n4, n5, n6⟩ : kd = 0 ∨ kd = 1 ∨ kd = 2 ∨ kd = 3 ∨ kd = 4 ∨ kd = 5 ∨ kd = 6 ∨ (¬ kd = 0 ∧ ¬ kd = 1 ∧ ¬ kd = 2 ∧ ¬ kd = 3 ∧ ¬ kd = 4 ∧ ¬ kd = 5 ∧ ¬ kd = 6) := by omega
    · have q4 := opRow4 P0.out.O
      have q5 := opRow5 P0.out.O
      have SC := Lib.hid (sector_any P0.out.good.data)
      go_upto_if 22 with fail
      go_cut [10] (fun s wx => ∃ ao b c, s = .slice ao (List.length b) c ∧ List.length b ≤ 300 ∧ Sl wx (.slice ao b.length c) b ∧ (0 < b.length → ∀ a, ao = some a → ¬ own3 d g m a.block) ∧ Below w3.heap.size w3 wx)
      case first =>
        cases hr : p.raw with
        | true =>
          rw [hr] at q4
          have HF := Lib.hid (And.intro P0.out.good.data P0.out.pd)
          clear hr
          go_wp2_with fail
          go_meet
          exact ⟨p.ao, p.data, p.cap, rfl, hfk.2, HF.out.1, HF.out.2, Below.refl _ _⟩
        | false =>
          rw [hr] at q4
          clear hr
          go_wp2_with fail
          refine SC.out.mono ?_
          rintro e w4 ⟨v4, rfl, ⟨gp, rfl, hg, hrow, hl⟩, hb4⟩
          have FIN := Lib.hid (show ∃ ao b c, Value.slice (some ⟨gp, 0, none⟩) 128 128 = .slice ao (List.length b) c ∧ List.length b ≤ 300 ∧ Sl w4 (.slice ao b.length c) b ∧ (0 < b.length → ∀ a, ao = some a → ¬ own3 d g m a.block) ∧ Below w3.heap.size w3 w4 from
            ⟨some ⟨gp, 0, none⟩, pad p.data, 128, by rw [hl], by rw [hl]; decide, ⟨_, _, rfl, (fun e => by cases e), fun a e j u hu => by
              cases e
              rw [Addr.add_mid, cell_of_row w4 gp (0 + j) _ _ _ hrow, Nat.zero_add]
              simpa using hu⟩, (fun _ a e h => by
              cases e
              have h1 := (P0.out.hO _ h).2
              have h2 := P0.out.be.size
              have h3 : w3.heap.size ≤ gp := hg
              have h4 : (⟨gp, 0, none⟩ : Addr).block = gp := rfl
              omega), hb4⟩)
          clear hg hrow hl hb4 SC
          go_wp2_with fail
          go_meet
          exact FIN.out
      case rest =>
        obtain ⟨ao, b, c, rfl, hbl, hsl, hno, hbx⟩ := hcut
        have PX := Lib.hid (P0.out.next (P0.out.D.below hbx (Nat.le_refl _)) (Frm.of_below hbx (Nat.le_refl _)))
        have WR := Lib.hid (write_sl PX.out.D (by have := P0.out.hn; unfold maxLen; omega) p.n P0.out.good.n hsl hno)
        have q1' := opRow1 PX.out.O
        have HSL := Lib.hid hsl
        have HNO := Lib.hid hno
        have HBX := Lib.hid hbx
        have HBL := Lib.hid hbl
        clear hbl hsl hno hbx q0 q4 q5 SC
        go_wp2_with fail
        refine WR.out.mono ?_
        rintro e w4 ⟨rfl, hD4, hF4⟩
        have P := Lib.hid (P0.out.next hD4 ((Frm.of_below HBX.out (Nat.le_refl _)).trans hF4))
        have HCS4 := Lib.hid P.out.R.cs
        have q1 := opRow1 P.out.O
        have RP := Lib.hid (r5Put_any P.out.V P.out.hT P0.out.D.wfu (by have := P0.out.hW; omega) p.n b)
        have hsl4 := sl_frame HSL.out hF4 HNO.out
        obtain ⟨ao', c', e5, hn0, hs⟩ := hsl4
        injection e5 with e1 e2 e3
        subst e1
        have hcv := run_convert_sl (n := b.length) (c := c) rfl hn0 hs
        obtain ⟨B, hB⟩ : ∃ B, B = str b := ⟨_, rfl⟩
        rw [← hB] at hcv RP
        clear hD4 hF4 WR q1' hn0 hs e2 e3 hB
        go_wp2_with (with_reducible show wpList _ _ _ _ _ _; refine wpList_load_all rfl 32 (.tmp 4) rfl ⟨k4, 0, none⟩ rfl v.cells _ HCS4.out Try.underlying32 rfl HSZ.out ?_)
        refine RP.out.mono ?_
        rintro e w5 ⟨v5, rfl, hv5, hb5⟩
        clear RP q1 hcv
        obtain ⟨z1, z2, z3, z4, z5⟩ := Py1.done P0.out P.out hb5 hv5
        obtain ⟨w6, hw6⟩ : ∃ w6, w6 = w5.setRow k4 v5.cells.toArray := ⟨_, rfl⟩
        rw [← hw6] at z1 z2 z3 z4 z5
        have REL := Lib.hid (show PyRel T' w d g m k4 k6 n W.length x.s.length (.int .i64 (x.wcode p.n b.length)) (.int .i64 (x.wcode p.n b.length)) w6 from ⟨_, x.write p.n b, v5, putW x p.n b W, _, rfl, rfl, z1, z2, z3, z4, P0.out.L.write P0.out.good.n b, z5, by omega, by unfold putW; split <;> simp, by rw [DS.write_len]⟩)
        have HR5 := Lib.hid (P.out.R.below hb5 (Nat.le_refl _))
        have HSZ5 := Lib.hid (Try.r5Size' v5)
        have HS5 := Lib.hid (HR5.out.shape v5)
        have HW6 := Lib.hid hw6
        clear hb5 hv5 z1 z2 z3 z4 z5 hw6 P
        go_wp2_with (with_reducible show wpList _ _ _ _ _ _; refine wpList_store_whole rfl 32 (.tmp 4) (.tmp 37) rfl k4 32 _ v5.cells.toArray rfl rfl HR5.out.row HSZ5.out HS5.out v5.cells_one ?_; rw [← HW6.out])
        go_meet
        exact REL.out
    · have RD := Lib.hid (read_any P0.out.D p.n P0.out.good.n)
      have q1' := opRow1 P0.out.O
      go_wp2_with fail
      refine RD.out.mono ?_
      rintro e w4 ⟨v4, rfl, hans, hb4⟩
      obtain ⟨ao, c, hv4, hsl⟩ := ans_sl hans
      have P := Lib.hid (P0.out.next (P0.out.D.below hb4 (Nat.le_refl _)) (Frm.of_below hb4 (Nat.le_refl _)))
      have HCS4 := Lib.hid P.out.R.cs
      have RG := Lib.hid (r5Get_any P.out.V P0.out.L (by have := P0.out.hW; omega) p.n P0.out.good.n)
      have q1 := opRow1 P.out.O
      have HSL := Lib.hid hsl
      obtain ⟨l, hl⟩ : ∃ l, l = (x.read p.n).1 := ⟨_, rfl⟩
      obtain ⟨cd, hcd⟩ : ∃ cd, cd = (x.read p.n).2 := ⟨_, rfl⟩
      rw [← hl, ← hcd] at RG
      rw [← hl] at hv4 HSL
      rw [← hcd]
      clear hans hb4 hsl RD q0 q1' hl hcd
      go_wp2_with (with_reducible show wpList _ _ _ _ _ _; refine wpList_load_all rfl 32 (.tmp 4) rfl ⟨k4, 0, none⟩ rfl v.cells _ HCS4.out Try.underlying32 rfl HSZ.out ?_)
      refine RG.out.mono ?_
      rintro e w5 ⟨rfl, hb5⟩
      have hsl5 := HSL.out.below' hb5 (Nat.le_refl _)
      obtain ⟨ao', c', e5, hno, hs⟩ := hsl5
      rw [hv4] at e5
      injection e5 with e1 e2 e3
      subst e1
      have hcv := run_convert_sl (n := l.length) (c := c) rfl hno hs
      obtain ⟨B, hB⟩ : ∃ B, B = str l := ⟨_, rfl⟩
      rw [← hB] at hcv
      subst hv4
      have REL := Lib.hid (show PyRel T' w d g m k4 k6 n W.length x.s.length (.int .i64 cd) (.int .i64 cd) w5 from ⟨cd, x, v, W, n, rfl, rfl, P.out.D.below hb5 (Nat.le_refl _), P.out.R.below hb5 (Nat.le_refl _), P.out.Z.below hb5 (Nat.le_refl _), P.out.V.below hb5 (Nat.le_refl _), P0.out.L, P.out.F.thenBelow hb5 (Nat.le_refl _), by omega, by omega, rfl⟩)
      have HB := Lib.hid hB
      clear hb5 hno hs e2 e3 q1 P HCS4 hB HSL
      rw [← HB.out]
      go_wp2_with fail
      go_meet
      exact REL.out
    · have FL := Lib.hid (flush_any P0.out.D P0.out.L.inside)
      go_wp2_with fail
      refine FL.out.mono ?_
      rintro e w4 ⟨rfl, hD4, hF4⟩
      have P := Lib.hid (P0.out.next hD4 hF4)
      have HCS4 := Lib.hid P.out.R.cs
      have RF := Lib.hid (r5Flush_any P.out.V P0.out.L P.out.hT P0.out.D.wfu (by have := P0.out.hW; omega) P0.out.D.few)
      clear hD4 hF4 FL q0
      go_wp2_with (with_reducible show wpList _ _ _ _ _ _; refine wpList_load_all rfl 32 (.tmp 4) rfl ⟨k4, 0, none⟩ rfl v.cells _ HCS4.out Try.underlying32 rfl HSZ.out ?_)
      refine RF.out.mono ?_
      rintro e w5 ⟨v5, rfl, hv5, hb5⟩
      clear RF
      obtain ⟨z1, z2, z3, z4, z5⟩ := Py1.done P0.out P.out hb5 hv5
      obtain ⟨w6, hw6⟩ : ∃ w6, w6 = w5.setRow k4 v5.cells.toArray := ⟨_, rfl⟩
      rw [← hw6] at z1 z2 z3 z4 z5
      have REL := Lib.hid (show PyRel T' w d g m k4 k6 n W.length x.s.length (.int .i64 (x.fcode)) (.int .i64 (x.fcode)) w6 from ⟨_, x.flush, v5, flushW x W, _, rfl, rfl, z1, z2, z3, z4, P0.out.L.flush, z5, by omega, by unfold flushW; split <;> simp, DS.flush_len x⟩)
      have HR5 := Lib.hid (P.out.R.below hb5 (Nat.le_refl _))
      have HSZ5 := Lib.hid (Try.r5Size' v5)
      have HS5 := Lib.hid (HR5.out.shape v5)
      have HW6 := Lib.hid hw6
      clear hb5 hv5 z1 z2 z3 z4 z5 hw6 P
      go_wp2_with (with_reducible show wpList _ _ _ _ _ _; refine wpList_store_whole rfl 32 (.tmp 4) (.tmp 67) rfl k4 32 _ v5.cells.toArray rfl rfl HR5.out.row HSZ5.out HS5.out v5.cells_one ?_; rw [← HW6.out])
      go_meet
      exact REL.out
    · have CR := Lib.hid (crash_any P0.out.D P0.out.L.inside p.ko p.kcap p.keep hkl NK.out.1 NK.out.2.2 p.n p.at_ P0.out.good.n P0.out.good.at_)
      have q1' := opRow1 P0.out.O
      have q2' := opRow2 P0.out.O
      have q6' := opRow6 P0.out.O
      go_wp2_with fail
      refine CR.out.mono ?_
      rintro e w4 ⟨rfl, hD4, hF4⟩
      have P := Lib.hid (P0.out.next hD4 hF4)
      have HCS4 := Lib.hid P.out.R.cs
      have RF := Lib.hid (r5Crash_any P.out.V P0.out.L P.out.hT (by have := P0.out.hW; omega) P0.out.D.few (nums_frame P0.out.good.keep hF4 P0.out.pk) (by omega) p.n p.at_ P0.out.good.at_)
      have q1 := opRow1 P.out.O
      have q2 := opRow2 P.out.O
      have q6 := opRow6 P.out.O
      clear hD4 hF4 CR q0 q1' q2' q6'
      go_wp2_with (with_reducible show wpList _ _ _ _ _ _; refine wpList_load_all rfl 32 (.tmp 4) rfl ⟨k4, 0, none⟩ rfl v.cells _ HCS4.out Try.underlying32 rfl HSZ.out ?_)
      refine RF.out.mono ?_
      rintro e w5 ⟨v5, rfl, hv5, hb5⟩
      clear RF q1 q2 q6
      obtain ⟨z1, z2, z3, z4, z5⟩ := Py1.done P0.out P.out hb5 hv5
      obtain ⟨w6, hw6⟩ : ∃ w6, w6 = w5.setRow k4 v5.cells.toArray := ⟨_, rfl⟩
      rw [← hw6] at z1 z2 z3 z4 z5
      have REL := Lib.hid (show PyRel T' w d g m k4 k6 n W.length x.s.length (.int .i64 (0)) (.int .i64 (0)) w6 from ⟨_, x.crash p.keep p.n p.at_, v5, [], _, rfl, rfl, z1, z2, z3, z4, P0.out.L.crash p.keep p.n p.at_, z5, by omega, by simp, crash_len x p.keep p.n p.at_⟩)
      have HR5 := Lib.hid (P.out.R.below hb5 (Nat.le_refl _))
      have HSZ5 := Lib.hid (Try.r5Size' v5)
      have HS5 := Lib.hid (HR5.out.shape v5)
      have HW6 := Lib.hid hw6
      clear hb5 hv5 z1 z2 z3 z4 z5 hw6 P
      go_wp2_with (with_reducible show wpList _ _ _ _ _ _; refine wpList_store_whole rfl 32 (.tmp 4) (.tmp 86) rfl k4 32 _ v5.cells.toArray rfl rfl HR5.out.row HSZ5.out HS5.out v5.cells_one ?_; rw [← HW6.out])
      go_meet
      exact REL.out
    · have FL := Lib.hid (up_any P0.out.D)
      go_wp2_with fail
      refine FL.out.mono ?_
      rintro e w4 ⟨rfl, hD4, hF4⟩
      have P := Lib.hid (P0.out.next hD4 hF4)
      have HCS4 := Lib.hid P.out.R.cs
      have RF := Lib.hid (r5Up_any P.out.V)
      clear hD4 hF4 FL q0
      go_wp2_with (with_reducible show wpList _ _ _ _ _ _; refine wpList_load_all rfl 32 (.tmp 4) rfl ⟨k4, 0, none⟩ rfl v.cells _ HCS4.out Try.underlying32 rfl HSZ.out ?_)
      refine RF.out.mono ?_
      rintro e w5 ⟨v5, rfl, hv5, hb5⟩
      clear RF
      obtain ⟨z1, z2, z3, z4, z5⟩ := Py1.done P0.out P.out hb5 hv5
      obtain ⟨w6, hw6⟩ : ∃ w6, w6 = w5.setRow k4 v5.cells.toArray := ⟨_, rfl⟩
      rw [← hw6] at z1 z2 z3 z4 z5
      have REL := Lib.hid (show PyRel T' w d g m k4 k6 n W.length x.s.length (.int .i64 (0)) (.int .i64 (0)) w6 from ⟨_, x.up, v5, upW x W, _, rfl, rfl, z1, z2, z3, z4, P0.out.L.up, z5, by omega, by unfold upW; split <;> simp, by unfold DS.up; split <;> rfl⟩)
      have HR5 := Lib.hid (P.out.R.below hb5 (Nat.le_refl _))
      have HSZ5 := Lib.hid (Try.r5Size' v5)
      have HS5 := Lib.hid (HR5.out.shape v5)
      have HW6 := Lib.hid hw6
      clear hb5 hv5 z1 z2 z3 z4 z5 hw6 P
      go_wp2_with (with_reducible show wpList _ _ _ _ _ _; refine wpList_store_whole rfl 32 (.tmp 4) (.tmp 92) rfl k4 32 _ v5.cells.toArray rfl rfl HR5.out.row HSZ5.out HS5.out v5.cells_one ?_; rw [← HW6.out])
      go_meet
      exact REL.out
    · have FL := Lib.hid (fuse_any P0.out.D p.n P0.out.good.n)
      have q1' := opRow1 P0.out.O
      go_wp2_with fail
      refine FL.out.mono ?_
      rintro e w4 ⟨rfl, hD4, hF4⟩
      have P := Lib.hid (P0.out.next hD4 hF4)
      have q1 := opRow1 P.out.O
      have c3 := P.out.R.c3
      have f3 := P.out.R.f 3
      have hK := P0.out.hK
      have hne : ∀ k, own3 d g m k → k ≠ k4 := fun k hk e => by have := (P0.out.hO k hk).2; omega
      obtain ⟨w6, hw6⟩ : ∃ w6, w6 = w4.setCell ⟨k4, 3, none⟩ (.int .i64 (max p.n (-1))) := ⟨_, rfl⟩
      have f : Frm (fun k => k = k4) w4 w6 := by rw [hw6]; exact (Frm.refl (fun k => k = k4) w4).setCell (p := ⟨k4, 3, none⟩) (.inl rfl) _
      have z2 : RVB w6 k4 { v with fuse := max p.n (-1) } := by rw [hw6]; exact P.out.R.set3 _
      have z4 : RVOf T' w6 { v with fuse := max p.n (-1) } { x with fuse := p.n } W := by
        have h := P.out.V.frame f (fun k _ e => e ▸ hK.2.2.2.2.2.2)
        exact ⟨h.sn, h.wn, h.dn, rfl, h.wr, h.fl, h.S, h.W⟩
      have REL := Lib.hid (show PyRel T' w d g m k4 k6 n W.length x.s.length (.int .i64 0) (.int .i64 0) w6 from ⟨_, { x with fuse := p.n }, _, W, _, rfl, rfl, P.out.D.frame f (hne d (.inl rfl)) (hne g (.inr (.inl rfl))) (hne m (.inr (.inr rfl))), z2, P.out.Z.frame f (fun e => hK.2.2.2.2.1 e.symm), z4, P0.out.L.fuse p.n, by rw [hw6]; exact P.out.F.setCell (p := ⟨k4, 3, none⟩) (.inr hK.1) _, by omega, by omega, rfl⟩)
      have HW6 := Lib.hid hw6
      clear hD4 hF4 FL q0 q1' hK hne hw6 f z2 z4 P
      go_wp2_with fail
      rw [← HW6.out]
      go_meet
      exact REL.out
    · have q1' := opRow1 P0.out.O
      have q2' := opRow2 P0.out.O
      have q3' := opRow3 P0.out.O
      have hx8 := P0.out.good.x
      by_cases hval : x.has p.n = true ∧ 0 ≤ p.at_ ∧ p.at_ < 128
      · obtain ⟨hh, ha0, ha1⟩ := hval
        have hin : 0 ≤ p.n ∧ p.n < (x.s.length : Int) := by simpa [DS.has] using hh
        obtain ⟨k, hpk⟩ : ∃ k : Nat, p.n = (k : Int) := ⟨p.n.toNat, by omega⟩
        obtain ⟨q, hpq⟩ : ∃ q : Nat, p.at_ = (q : Int) := ⟨p.at_.toNat, by omega⟩
        obtain ⟨y8, hy8⟩ : ∃ y8 : UInt8, p.x = (y8.toNat : Int) := ⟨UInt8.ofNat p.x.toNat, by simp; omega⟩
        have hk : k < x.s.length := by omega
        have hq : q < 128 := by omega
        have SP := Lib.hid (spoil_ok P0.out.D hk hq y8)
        rw [hpk] at q1'
        rw [hpq] at q2'
        rw [hy8] at q3'
        have HP := Lib.hid (And.intro hpk (And.intro hpq hy8))
        clear hh ha0 ha1 hin hpk hpq hy8 hx8
        go_wp2_with fail
        refine SP.out.mono ?_
        rintro e w4 ⟨rfl, hD4, hF4⟩
        have P := Lib.hid (P0.out.next hD4 hF4)
        have q1 : w4.cell? ⟨k5, 1, none⟩ = some (.int .i64 (k : Int)) := by rw [← HP.out.1]; exact opRow1 P.out.O
        have q2 : w4.cell? ⟨k5, 2, none⟩ = some (.int .i64 (q : Int)) := by rw [← HP.out.2.1]; exact opRow2 P.out.O
        obtain ⟨N, hN⟩ : ∃ N, N = x.s.length := ⟨_, rfl⟩
        have hkN : k < N := by omega
        obtain ⟨ks, hso, hcell⟩ := P.out.V.S.at (by exact hk)
        have hso' := hso
        have c0 : w4.cell? ⟨k4, 0, none⟩ = some (.slice (some ⟨ks, 0, none⟩) N v.sc) := by have := P.out.R.c0; rwa [P.out.V.sn, hso, ← hN] at this
        obtain ⟨sc, hsc⟩ : ∃ sc, sc = v.sc := ⟨_, rfl⟩
        rw [← hsc] at c0
        obtain ⟨b0, hb0⟩ : ∃ b0, b0 = x.s.getD k [] := ⟨_, rfl⟩
        rw [← hb0] at hcell
        have hl0 : b0.length = 128 := by rw [hb0]; exact P0.out.L.len _ (by simp [List.getD, hk])
        obtain ⟨B, hB⟩ : ∃ B, B = str b0 := ⟨_, rfl⟩
        have hBs : B.size = 128 := by rw [hB, r5s_size, hl0]
        rw [← hB] at hcell
        have hcv := Lib.run_convert_string_bytes (P := Try.prog) w4 9 34 5 B Try.underlying9 Try.underlying34 Try.underlying5
        rw [hBs] at hcv
        obtain ⟨wB, hwB⟩ : ∃ wB, wB = Lib.bytesWorld w4 5 B := ⟨_, rfl⟩
        obtain ⟨gB, hgB⟩ : ∃ gB, gB = w4.heap.size := ⟨_, rfl⟩
        obtain ⟨cB, hcB⟩ : ∃ cB, cB = grownCap w4 128 0 5 := ⟨_, rfl⟩
        have hrB : BRow wB gB b0 := by rw [hwB, hgB, hB]; exact bytes_row w4 b0
        have hbB : Below w4.heap.size w4 wB := by rw [hwB]; exact bytes_below w4 B
        rw [← hwB, ← hgB, ← hcB] at hcv
        have hkI : (k : Int) < (N : Int) := by omega
        have hk0 : ¬ (k : Int) < 0 := by omega
        have hkn : ¬ (N : Int) ≤ (k : Int) := by omega
        have hq0 : ¬ (q : Int) < 0 := by omega
        have hqI : (q : Int) < 128 := by omega
        have hqn : ¬ (128 : Int) ≤ (q : Int) := by omega
        have HRB := Lib.hid hrB
        have HBB := Lib.hid hbB
        have HL0 := Lib.hid (And.intro hb0 hl0)
        have HGB := Lib.hid hgB
        have HNN := Lib.hid hN
        have HKK := Lib.hid hk
        clear hD4 hF4 SP q0 q1' q2' q3' hso hsc hb0 hl0 hB hBs hwB hgB hcB hrB hbB hN hk
        have hbq : wB.cell? ⟨gB, q, none⟩ = some (.int .u8 ((b0.getD q 0).toNat : Int)) := HRB.out.cell (by rw [HL0.out.2]; exact hq)
        have hfq : wB.frozen? ⟨gB, q, none⟩ = false := HRB.out.free (by rw [HL0.out.2]; exact hq)
        have hOB : wB.heap[k5]? = some (.cells p.cells.toArray 37 (0, 0)) := (HBB.out.block k5 (lt_of_row P.out.O)).trans P.out.O
        have q2B : wB.cell? ⟨k5, 2, none⟩ = some (.int .i64 (q : Int)) := by rw [← HP.out.2.1]; exact opRow2 hOB
        have q3B : wB.cell? ⟨k5, 3, none⟩ = some (.int .u8 (y8.toNat : Int)) := by rw [← HP.out.2.2]; exact opRow3 hOB
        obtain ⟨bq, hbqe⟩ : ∃ bq, bq = b0.getD q 0 := ⟨_, rfl⟩
        rw [← hbqe] at hbq
        obtain ⟨zb, hzb⟩ : ∃ zb, zb = bq ^^^ y8 := ⟨_, rfl⟩
        have XX := Lib.hid (show bits .xor .u8 (bq.toNat : Int) (y8.toNat : Int) = ((zb.toNat : Nat) : Int) by rw [hzb]; exact byte_xor bq y8)
        have HZB := Lib.hid hzb
        have HBQ := Lib.hid hbqe
        clear hOB hbqe hzb
        go_upto_region 34 with fail
        (refine wp_region_quiet_tail 9 (by kernel_rfl) (by kernel_rfl) ?_; simp only [List.take_succ_cons, List.take_zero, List.drop_succ_cons, List.drop_zero]; (repeat (go_big_quiet_step (fail))); refine wpQuiet_nil ?_; intro _ hw'; obtain ⟨nq, hw''⟩ := hw'; subst hw'')
        rw [XX.out]
        go_upto_region 35 with fail
        obtain ⟨w6, hw6⟩ : ∃ w6, w6 = (wB.drewN nq).setCell ⟨gB, q, none⟩ (.int .u8 ((zb.toNat : Nat) : Int)) := ⟨_, rfl⟩
        rw [← hw6]
        have hb6 : Below w4.heap.size w4 w6 := by rw [hw6]; exact (below_drewN HBB.out nq).setCell (p := ⟨gB, q, none⟩) (by rw [← HGB.out]; exact Nat.le_refl _) _
        obtain ⟨b1, hb1⟩ : ∃ b1, b1 = b0.set q zb := ⟨_, rfl⟩
        have hr6 : BRow w6 gB b1 := by rw [hw6, hb1]; exact (HRB.out.frame ((Frm.refl (fun _ => False) wB).drewN nq) (fun e => e)).set (by rw [HL0.out.2]; exact hq) _
        have hl1 : b1.length = 128 := by rw [hb1, List.length_set]; exact HL0.out.2
        obtain ⟨g6, hg6⟩ : ∃ g6, g6 = w6.heap.size := ⟨_, rfl⟩
        obtain ⟨w7, hw7⟩ : ∃ w7, w7 = w6.alloc (.cells #[] 9) := ⟨_, rfl⟩
        have hb7 : Below w6.heap.size w6 w7 := by rw [hw7]; exact (Below.refl _ _).alloc (Nat.le_refl _) _
        have hb47 := hb6.trans (hb7.mono hb6.size)
        have c07 : (w6.alloc (.cells #[] 9)).cell? ⟨k4, 0, none⟩ = some (.slice (some ⟨ks, 0, none⟩) N sc) := by
          rw [← hw7, hb47.cell (p := ⟨k4, 0, none⟩) P.out.R.lt]
          exact c0
        have own0 : w7.ownsRow g6 9 1 (.slice (some ⟨g6, 0, none⟩) 0 0) 0 [] := by rw [hw7, hg6]; exact own_empty w6 _ 1 (Nat.le_refl _)
        obtain ⟨xs, hxs⟩ : ∃ xs : List Value, xs = x.s.map fun b => .string (str b) := ⟨_, rfl⟩
        have src := ((P.out.V.S.frame (Frm.of_below (T := fun _ => False) hb47 (Nat.le_refl _)) (fun _ _ e => e.elim)).src (sc := sc))
        rw [hso', ← HNN.out, ← hxs] at src
        have hg7 : g6 ≤ w7.heap.size := by have := hb7.size; omega
        obtain ⟨i0, hi0, hz0, hz1, hz2⟩ := info_parts Try.infoStr
        have L1 := Lib.hid (show 0 + N ≤ maxLen by have := P0.out.D.few; have := HNN.out; unfold maxLen; omega)
        have L2 := Lib.hid (show (0 + N) * 16 ≤ 140737488355328 by have := P0.out.D.few; have := HNN.out; omega)
        have HB6 := Lib.hid hb6
        have HR6 := Lib.hid hr6
        have HB1 := Lib.hid (And.intro hb1 hl1)
        have HG6 := Lib.hid hg6
        have HW7 := Lib.hid hw7
        have HB7 := Lib.hid hb7
        have OWN0 := Lib.hid own0
        have HXS := Lib.hid hxs
        have SRC := Lib.hid src
        have HG7 := Lib.hid hg7
        clear hbq hfq q2B q3B hcv c0 hw6 hb6 hb1 hr6 hl1 hg6 hw7 hb7 hb47 own0 hxs src hg7 q1 q2
        go_wp2_with (at_builtin; rw [← HW7.out, ← HG6.out]; refine wpList_append_own_src _ rfl (.tmp 150) (.tmp 152) 29 29 rfl g6 9 i0 (.string ⟨#[]⟩) 1 16 Try.underlying29 hi0 hz0 hz1 hz2 rfl _ 0 [] rfl OWN0.out _ N xs rfl SRC.out L1.out L2.out HG7.out ?next)
        case next =>
          intro v8 w8 hG8
          have hG8 : Grew w7 w8 g6 9 1 (.slice (some ⟨g6, 0, none⟩) 0 0) v8 N xs := by simpa using hG8
          obtain ⟨gs, c, rfl⟩ := own_some hG8.1 (by omega)
          obtain ⟨b8, _⟩ := grew_below (w0 := w6) hG8 (fun k e => by rw [← HG6.out]; cases e; exact Nat.le_refl _) HB7.out
          have b48 := HB6.out.trans (b8.mono HB6.out.size)
          have hO8 := (b48.block k5 (lt_of_row P.out.O)).trans P.out.O
          have g18 := P.out.R.below b48 (Nat.le_refl _)
          have d0 := g18.c0
          have f0 := g18.f 0
          obtain ⟨w9, hw9⟩ : ∃ w9, w9 = w8.setCell ⟨k4, 0, none⟩ (.slice (some ⟨gs, 0, none⟩) N c) := ⟨_, rfl⟩
          have g19 := g18.set0 (some ⟨gs, 0, none⟩) N c
          rw [← hw9] at g19
          have hk4 : k4 < w4.heap.size := P.out.R.lt
          have hk46 : k4 < g6 := by have := HB6.out.size; have := HG6.out; omega
          have own9 : w9.ownsRow g6 9 1 (.slice (some ⟨gs, 0, none⟩) x.s.length c) x.s.length (x.s.map fun b => .string (str b)) := by
            rw [hw9, ← HNN.out, ← HXS.out]
            exact ownsRow_setCell_below hG8.1 (a := ⟨k4, 0, none⟩) (by show k4 < g6; omega) _
          obtain ⟨o1, o2, o3, o4, o5⟩ := own_set (T := fun k => k < g6) own9 HKK.out b1 (fun k hk => hk)
          have f49 : Frm (fun k => k = k4 ∨ w4.heap.size ≤ k) w4 w9 := by rw [hw9]; exact (Frm.of_below b48 (Nat.le_refl _)).setCell (p := ⟨k4, 0, none⟩) (.inl (.inl rfl)) _
          obtain ⟨w10, hw10⟩ : ∃ w10, w10 = w9.setCell ⟨gs, k, none⟩ (.string (str b1)) := ⟨_, rfl⟩
          rw [← hw10] at o1
          have f410 : Frm (fun k => k = k4 ∨ w4.heap.size ≤ k) w4 w10 := by rw [hw10]; exact f49.setCell (p := ⟨gs, k, none⟩) (.inr (by have := HB6.out.size; have := HG6.out; show w4.heap.size ≤ gs; omega)) _
          have hO9 : w9.heap[k5]? = some (.cells p.cells.toArray 37 (0, 0)) := by rw [hw9]; exact (Below.heap_setCell w8 ⟨k4, 0, none⟩ _ k5 (fun e => P0.out.hK.2.2.2.1 e.symm)).trans hO8
          have q19 : w9.cell? ⟨k5, 1, none⟩ = some (.int .i64 (k : Int)) := by rw [← HP.out.1]; exact opRow1 hO9
          have c09 := g19.c0
          have hr9 : BRow w9 gB b1 := by
            rw [hw9]
            have h8 := HR6.out.frame (Frm.of_below (T := fun _ => False) b8 (Nat.le_refl _)) (fun e => e)
            exact h8.frame ((Frm.refl (fun k => k = k4) w8).setCell (p := ⟨k4, 0, none⟩) (.inl rfl) _) (fun e => by have := HGB.out; omega)
          have hsl9 := hr9.sl cB
          obtain ⟨ao', c', e5, hn0, hs⟩ := hsl9
          injection e5 with e1 e2 e3
          subst e1
          have hcv2 := run_convert_sl (n := b1.length) (c := cB) rfl hn0 hs
          rw [HB1.out.2] at hcv2
          have hne : ∀ k, own3 d g m k → ¬ (k = k4 ∨ w4.heap.size ≤ k) := fun k hk e => by have h1 := (P0.out.hO k hk).2; have h2 := P0.out.hK; have h3 := P.out.F.size; omega
          have g110 : RVB w10 k4 { v with so := some ⟨gs, 0, none⟩, sn := N, sc := c } := by rw [hw10]; exact g19.other (by omega) _
          have REL := Lib.hid (show PyRel T' w d g m k4 k6 n W.length x.s.length (.int .i64 0) (.int .i64 0) w10 from by
            refine ⟨0, x.spoil k q y8, _, W, n, rfl, rfl, P.out.D.frame f410 (hne d (.inl rfl)) (hne g (.inr (.inl rfl))) (hne m (.inr (.inr rfl))), g110, P.out.Z.frame f410 (fun e => by have := P0.out.hK; have := P.out.Z.lt; omega), ?_, P0.out.L.spoil HKK.out y8, P.out.F.transT f410 (fun i hi e => by have h2 := P0.out.hK; have h3 := P.out.F.size; omega), by omega, by omega, by simp [DS.spoil]⟩
            have h := P.out.V.frame f410 (fun k hk e => by rcases e with e | e; (exact e ▸ P0.out.hK.2.2.2.2.2.2); omega)
            refine ⟨by simp [DS.spoil, HNN.out], h.wn, h.dn, h.fu, h.wr, h.fl, ?_, h.W⟩
            show StrA T' w10 (some ⟨gs, 0, none⟩) (x.s.set k ((x.s.getD k []).set q ((x.s.getD k []).getD q 0 ^^^ y8)))
            rw [← HL0.out.1, ← HBQ.out, ← HZB.out, ← HB1.out.1]
            exact o1.more (fun k _ hk => by have h1 := P.out.hT k hk; have := HB6.out.size; have := HG6.out; show k < g6; omega))
          have HW9 := Lib.hid hw9
          have HW10 := Lib.hid hw10
          clear hG8 b8 b48 hO8 g18 g19 own9 o1 o4 o5 f49 f410 hO9 hr9 hn0 hs e2 e3 hne g110 hw9 hw10 c07 hk4 hk46
          go_upto_region 36 with fail
          rw [← HW9.out]
          go_wp2_with fail
          rw [← HW10.out]
          go_meet
          exact REL.out
      · have hor : x.has p.n = false ∨ p.at_ < 0 ∨ 128 ≤ p.at_ := by
          cases hh : x.has p.n with
          | false => exact .inl rfl
          | true => right; rw [hh] at hval; simp at hval; omega
        have SP := Lib.hid (spoil_bad P0.out.D p.n p.at_ p.x hor)
        have hor2 : p.n < 0 ∨ (x.s.length : Int) ≤ p.n ∨ p.at_ < 0 ∨ 128 ≤ p.at_ := by
          rcases hor with h | h | h
          · unfold DS.has at h
            rw [Bool.and_eq_false_iff] at h
            simp at h
            omega
          · exact .inr (.inr (.inl h))
          · exact .inr (.inr (.inr h))
        clear hval hor
        go_wp2_with fail
        refine SP.out.mono ?_
        rintro e w4 ⟨rfl, hD4, hb4⟩
        have P := Lib.hid (P0.out.next hD4 (Frm.of_below hb4 (Nat.le_refl _)))
        have REL := Lib.hid (show PyRel T' w d g m k4 k6 n W.length x.s.length (.int .i64 1) (.int .i64 1) w4 from ⟨1, x, v, W, n, rfl, rfl, P.out.D, P.out.R, P.out.Z, P.out.V, P0.out.L, P.out.F, by omega, by omega, rfl⟩)
        have q1 := opRow1 P.out.O
        have q2 := opRow2 P.out.O
        have c0 := P.out.R.c0
        rw [P.out.V.sn] at c0
        obtain ⟨N, hN⟩ : ∃ N, N = x.s.length := ⟨_, rfl⟩
        obtain ⟨pn, hpn⟩ : ∃ pn, pn = p.n := ⟨_, rfl⟩
        obtain ⟨pa, hpa⟩ : ∃ pa, pa = p.at_ := ⟨_, rfl⟩
        rw [← hN] at c0 hor2
        rw [← hpn] at q1 hor2
        rw [← hpa] at q2 hor2
        clear hD4 hb4 SP q0 q1' q2' q3' hx8 P hN hpn hpa
        by_cases h1 : pn < 0
        · clear hor2
          go_wp2_with fail
          go_meet
          exact REL.out
        · by_cases h2 : (N : Int) ≤ pn
          · clear hor2
            go_wp2_with fail
            go_meet
            exact REL.out
          · by_cases h3 : pa < 0
            · clear hor2
              go_wp2_with fail
              go_meet
              exact REL.out
            · have h4 : 128 ≤ pa := by omega
              clear hor2
              go_wp2_with fail
              go_meet
              exact REL.out
    · have REL := Lib.hid (show PyRel T' w d g m k4 k6 n W.length x.s.length (.int .i64 0) (.int .i64 0) w3 from ⟨0, x, v, W, n, rfl, rfl, P0.out.D, P0.out.R, P0.out.Z, P0.out.V, P0.out.L, Frm.of_below P0.out.be (Nat.le_refl _), by omega, by omega, rfl⟩)
      go_wp2_with fail
      go_meet
      exact REL.out
  case rest =>
    obtain ⟨code, x', v', W', n', rfl, rfl, z1, z2, z3, z4, z5, z6, z7, z8, z9⟩ := hcut
    have Z1 := Lib.hid z1
    have Z3 := Lib.hid z3
    have HOK := Lib.hid (And.intro z4 (And.intro z5 (And.intro z6 (And.intro z7 (And.intro z8 z9)))))
    have HSV := Lib.hid (Try.r5Size v')
    have HSV' := Lib.hid (Try.r5Size' v')
    have hne : ∀ k, own3 d g m k → k ≠ k6 := fun k hk e => by have := (P0.out.hO k hk).2; have := P0.out.hK; omega
    have KC := Lib.hid (show ∀ w', Frm (fun k => k = k6) wc w' → ∀ j u, v'.cells[j]? = some u → w'.cell? ((⟨k4, 0, none⟩ : Addr).add j) = some u from fun w' hC => (z2.frame hC P0.out.hK.2.2.2.2.1).cs)
    have DC := Lib.hid (show ∀ w', Frm (fun k => k = k6) wc w' → DiskAt Try.prog w' d g m n' x' ∧ RVOf T' w' v' x' W' from fun w' hC => ⟨z1.frame hC (hne d (.inl rfl)) (hne g (.inr (.inl rfl))) (hne m (.inr (.inr rfl))), z4.frame hC (fun k _ e => e ▸ HT6.out)⟩)
    have SM := Lib.hid (show ∀ w', Frm (fun k => k = k6) wc w' → Calls Try.prog 13 #[.pointer (some ⟨d, 0, none⟩), .agg v'.cells.toArray] w' fun e w'' => e = .returned (.bool true) ∧ Below w'.heap.size w' w'' from fun w' hC => same5_any (DC.out w' hC).1 (DC.out w' hC).2 z5 (by have := P0.out.hn; omega) (by have := P0.out.hW; omega))
    have SH := Lib.hid (show ∀ u : RV, u.cells.toArray.size = v'.cells.toArray.size from fun u => rfl)
    clear z1 z2 z3 z4 z5 z6 z7 z8 z9
    go_upto_region 37 with fail
    refine wp_region_slotsG (by kernel_rfl) (by kernel_rfl)
      (fun y => ⟨#[Value.pointer (some { block := d, off := 0 }), Value.agg v.cells.toArray, Value.agg p.cells.toArray, undef,
          Value.pointer (some { block := k4, off := 0 }), Value.pointer (some { block := k5, off := 0 }),
          Value.pointer (some { block := k6, off := 0 }), y 10, Value.int IntKind.i64 code, Value.int IntKind.i64 code, u10, u11, u12, u13, u14, Value.int IntKind.i64 kd, u16, u17, u18, u19, u20, u21, u22, u23, u24, u25, u26, u27, u28, u29, u30, u31, u32, u33, u34, u35, u36, u37, u38, u39, u40, u41, u42, u43, u44, u45, u46, u47, u48, u49, u50, u51, u52, u53, u54, u55, u56, u57, u58, u59, u60, u61, u62, u63, u64, u65, u66, u67, u68, u69, u70, u71, u72, u73, u74, u75, u76, u77, u78, u79, u80, u81, u82, u83, u84, u85, u86, u87, u88, u89, u90, u91, u92, u93, u94, u95, u96, u97, u98, u99, u100, u101, u102, u103, u104, u105, u106, u107, u108, u109, u110, u111, u112, u113, u114, u115, u116, u117, u118, u119, u120, u121, u122, u123, u124, u125, u126, u127, u128, u129, u130, u131, u132, u133, u134, u135, u136, u137, u138, u139, u140, u141, u142, u143, u144, u145, u146, u147, u148, u149, u150, u151, u152, u153, u154, u155, u156, u157, u158, u159, u160, u161, y 0, y 1, y 2, y 3, y 4, y 5, y 6, y 7, y 8], []⟩)
      (pyF d code v') (fun L w => Frm (fun k => k = k6) wc w ∧ RVB w k6 (if L 9 = true then v' else zeroR)) (fun _ _ => True) (fun _ _ _ _ _ h => h) ?_ ?_ (fun j => match j with | 0 => u162 | 1 => u163 | 2 => u164 | 3 => u165 | 4 => u166 | 5 => u167 | 6 => u168 | 7 => u169 | 8 => u170 | 10 => u7 | _ => undef) rfl ⟨(Frm.refl _ _).drew, Z3.out⟩
    · intro i' o ho L y wx hd' hi' hx hs
      match i', ho with
      | 0, ho =>
        obtain rfl := Option.some.inj ho
        exact .inl ⟨rfl, slot_loadZ 32 (.tmp 4) rfl ⟨k4, 0, none⟩ rfl v'.cells _ (KC.out wx hs.1) Try.underlying32 rfl HSV.out ⟨_, rfl, trivial, rfl, stKeep hs (by decide)⟩⟩
      | 1, ho =>
        obtain rfl := Option.some.inj ho
        exact .inl ⟨rfl, slot_run rfl ⟨_, rfl, trivial, rfl, stKeep hs (by decide)⟩⟩
      | 2, ho =>
        obtain rfl := Option.some.inj ho
        exact .inl ⟨rfl, slot_run rfl ⟨_, rfl, trivial, rfl, stKeep hs (by decide)⟩⟩
      | 3, ho =>
        obtain rfl := Option.some.inj ho
        have y1 : y 1 = .int .i64 code := hx 1 (hd' ⟨1, .data⟩ (by simp) rfl)
        have y2 : y 2 = .int .i64 code := hx 2 (hd' ⟨2, .data⟩ (by simp) rfl)
        refine .inl ⟨rfl, slot_run (v := .bool true) (w' := wx) ?_ ⟨_, rfl, trivial, rfl, stKeep hs (by decide)⟩⟩
        refine runZ (fun z => match z with | .tmp 163 => y 1 | _ => y 2) (by kernel_rfl) ?_
        rw [y1, y2]
        go_simp
      | 4, ho =>
        obtain rfl := Option.some.inj ho
        have y3 : y 3 = .bool true := hx 3 (hd' ⟨3, .data⟩ (by simp) rfl)
        exact .inl ⟨rfl, slot_run rfl ⟨_, rfl, trivial, y3, stKeep hs (by decide)⟩⟩
      | 5, ho =>
        obtain rfl := Option.some.inj ho
        have y4 : y 4 = .bool true := hx 4 (hd' ⟨4, .guard⟩ (by simp) rfl)
        exact .inl ⟨Eq.trans (b := gdZ (y 4) true) (by kernel_rfl) (by rw [y4]; rfl), slot_run rfl ⟨_, rfl, trivial, rfl, stKeep hs (by decide)⟩⟩
      | 6, ho =>
        obtain rfl := Option.some.inj ho
        have y4 : y 4 = .bool true := hx 4 (hd' ⟨4, .guard⟩ (by simp) rfl)
        exact .inl ⟨Eq.trans (b := gdZ (y 4) true) (by kernel_rfl) (by rw [y4]; rfl), slot_loadZ 32 (.tmp 4) rfl ⟨k4, 0, none⟩ rfl v'.cells _ (KC.out wx hs.1) Try.underlying32 rfl HSV.out ⟨_, rfl, trivial, rfl, stKeep hs (by decide)⟩⟩
      | 7, ho =>
        obtain rfl := Option.some.inj ho
        have y4 : y 4 = .bool true := hx 4 (hd' ⟨4, .guard⟩ (by simp) rfl)
        have y5 : y 5 = .pointer (some ⟨d, 0, none⟩) := hx 5 (hd' ⟨5, .data⟩ (by simp) rfl)
        have y6 : y 6 = .agg v'.cells.toArray := hx 6 (hd' ⟨6, .data⟩ (by simp) rfl)
        refine .inl ⟨Eq.trans (b := gdZ (y 4) true) (by kernel_rfl) (by rw [y4]; rfl), ?_⟩
        refine slot_call #[.pointer (some ⟨d, 0, none⟩), .agg v'.cells.toArray] rfl Try.func13 (by kernel_rfl) (by kernel_rfl) (by simp [Act.eval, y5, y6]) ?_
        refine (SM.out wx hs.1).mono ?_
        rintro e w' ⟨rfl, hb⟩
        exact ⟨_, rfl, _, rfl, trivial, rfl, stKeep ⟨hs.1.thenBelow hb (Nat.le_refl _), hs.2.below hb (Nat.le_refl _)⟩ (by decide)⟩
      | 8, ho =>
        obtain rfl := Option.some.inj ho
        have y4 : y 4 = .bool true := hx 4 (hd' ⟨4, .data⟩ (by simp) rfl)
        have y7 : y 7 = .bool true := hx 7 (hd' ⟨7, .data⟩ (by simp) rfl)
        refine .inl ⟨rfl, slot_run (v := .bool true) (w' := wx) ?_ ⟨_, rfl, trivial, rfl, stKeep hs (by decide)⟩⟩
        refine runZ (fun z => match z with | .tmp 166 => y 4 | .tmp 169 => y 7 | _ => .bool false) (by kernel_rfl) ?_
        rw [y4, y7]
        kernel_rfl
      | 9, ho =>
        obtain rfl := Option.some.inj ho
        have y0 : y 0 = .agg v'.cells.toArray := hx 0 (hd' ⟨0, .data⟩ (by simp) rfl)
        have h6 : RVB wx k6 zeroR := by have h := hs.2; rw [hi'] at h; exact h
        refine .inl ⟨rfl, slot_storeZ 32 (.tmp 6) (.tmp 162) rfl k6 32 _ v'.cells.toArray rfl y0 h6.row HSV'.out (SH.out _) v'.cells_one ⟨undef, rfl, trivial, trivial, hs.1.setRow (.inl rfl) _, ?_⟩⟩
        rw [upd_self, if_pos rfl]
        exact h6.whole v'
      | 10, ho =>
        obtain rfl := Option.some.inj ho
        have y8 : y 8 = .bool true := hx 8 (hd' ⟨8, .data⟩ (by simp) rfl)
        exact .inl ⟨rfl, slot_run rfl ⟨_, rfl, trivial, y8, stKeep hs (by decide)⟩⟩
      | k + 11, ho => simp at ho
    · intro L y wx hall hx hs
      have y10 : y 10 = .bool true := hx 10 (hall 10 (by decide))
      rw [y10]
      have h6 : RVB wx k6 v' := by have h := hs.2; rw [hall 9 (by decide)] at h; exact h
      have H6 := Lib.hid h6
      have HX := Lib.hid hs.1
      clear hall hx hs y10 h6
      generalize y 0 = v0
      generalize y 1 = v1
      generalize y 2 = v2
      generalize y 3 = v3
      generalize y 4 = v4
      generalize y 5 = v5'
      generalize y 6 = v6'
      generalize y 7 = v7'
      generalize y 8 = v8'
      go_wp2_with fail
      obtain ⟨y4, y5, y6, y7, y8, y9⟩ := HOK.out
      refine bodyPost_ret (results_row_tmp rfl _ _ k6 32 v'.cells (0, 0) _ _ rfl rfl H6.out Try.underlying32 rfl HSV.out) rfl ⟨x', v', W', n', rfl, (DC.out wx HX.out).1, (DC.out wx HX.out).2.more (fun k _ hk => HTT.out k hk), y5, y6.transT HX.out (fun i hi e => by have := P0.out.hK; omega), y7, y8, y9⟩
end Go.Proofs.Ythcliaaoadfegaa.Dk
