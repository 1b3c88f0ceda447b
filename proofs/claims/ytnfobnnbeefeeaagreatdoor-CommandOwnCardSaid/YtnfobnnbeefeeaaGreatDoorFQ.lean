/- The walk of CommandOwn. -/
import Derived.Test.YtnfobnnbeefeeaaGreatDoorFO
import Derived.Test.YtnfobnnbeefeeaaGreatDoorIT
namespace Go.Proofs.YtnfobnnbeefeeaaGreatDoor.Wi
open Go Go.RowKit
set_option linter.unusedVariables false
set_option linter.unusedSimpArgs false
def coF (g6 gr n vc j : Nat) (i : Nat) (q : Value) : Prop := match i with
  | 0 => q = .pointer (some ⟨g6, 7, none⟩)
  | 1 => q = .pointer (some ⟨g6, 10, none⟩)
  | 2 => q = .slice (some ⟨gr, 0, none⟩) n vc
  | 3 => q = .int .i64 (j : Int)
  | 4 => q = .agg ZN.cells.toArray
  | 5 => q = .pointer (some ⟨gr, j * 4, none⟩)
  | _ => True
theorem coF_upd {g6 gr n vc j : Nat} {L : Nat → Bool} {x : Nat → Value} (h : ∀ i, L i = true → coF g6 gr n vc j i (x i)) {k : Nat} {v : Value} (hv : coF g6 gr n vc j k v) : ∀ i, upd L k true i = true → coF g6 gr n vc j i (upd x k v i) := by
  intro i hi
  by_cases e : i = k
  · subst e; rw [upd_self]; exact hv
  · rw [upd_ne _ _ e] at hi ⊢; exact h i hi
set_option maxHeartbeats 16000000 in
set_option maxRecDepth 100000 in
theorem cown_any (v : Cm) (w : World) (hv : v.At w.heap.size w) (hg : CB w.heap.size w) :
    Calls Tryz.prog 11 #[.agg v.cells.toArray] w fun e w' => e = .returned (.bool true) ∧ Below w.heap.size w w' := by
  obtain ⟨w1, hw1⟩ : ∃ bx, bx = w.alloc (.cells v.cells.toArray 42) := ⟨_, rfl⟩
  obtain ⟨g, hg⟩ : ∃ bx, bx = w.heap.size := ⟨_, rfl⟩
  have bw1 : Below w.heap.size w w1 := by rw [hw1]; exact (Below.refl _ _).alloc (Nat.le_refl _) _
  have nw1 : w1.heap[g]? = some (.cells v.cells.toArray 42 (0, 0)) := by rw [hw1, hg]; exact heap_alloc_new _ _
  have Kw1 := Lib.hid (rowC nw1)
  have Cw1 := Lib.hid (cmC nw1)
  have Hw1 := Lib.hid hw1
  have Hg := Lib.hid hg
  have Bw1 := Lib.hid bw1
  have Nw1 := Lib.hid nw1
  clear hw1 hg bw1 nw1
  have HV := Lib.hid ((hv.below Bw1.out).mono Bw1.out.size)
  have G := Lib.hid ((hg.on Bw1.out).base Bw1.out.size)
  have CH := Lib.hid (wants_any w1 G.out)
  clear hv hg
  go_enter Tryz.func11, Tryz.ntmps11
  go_upto_region 1 with fail
  rw [← Hw1.out, ← Hg.out]
  go_wp2_with fail
  refine CH.out.mono ?_
  rintro e w2 ⟨rfl, hb2⟩
  have Kw2 := Lib.hid (rowCB (x := v) Nw1.out hb2)
  have CF := Lib.hid (csmall_one ((HV.out.below hb2).mono hb2.size))
  have hl4 := v.cells_len
  go_wp2_with (first | (with_reducible show wpList _ _ _ _ _ _; refine wpList_load_allW rfl 42 (.tmp 1) rfl ⟨g,0,none⟩ rfl v.cells _ Kw2.out Tryz.underlying42 rfl (Tryz.cmSize v) ?_))
  clear hl4
  rw [bs1C]
  refine CF.out.mono ?_
  rintro e w3 ⟨⟨b, rfl⟩, hb3⟩
  have hb13 := hb2.trans (hb3.mono hb2.size)
  have RL3 := Lib.hid (Bw1.out.trans (hb13.mono Bw1.out.size))
  cases b
  · clear hb2 hb3 hb13
    go_wp2_with fail
    go_ret
    exact ⟨rfl, RL3.out⟩
  have Kw3 := Lib.hid (rowCB (x := v) Nw1.out hb13)
  have CG := Lib.hid (rccheck_any v w1.heap.size w3 (HV.out.below hb13) hb13.size)
  obtain ⟨E, hE⟩ : ∃ E, E = v.vE := ⟨_, rfl⟩
  rw [← hE] at CG
  have HE := Lib.hid hE
  clear hE
  go_wp2_with (first | (with_reducible show wpList _ _ _ _ _ _; refine wpList_loadWanted (by with_unfolding_all rfl) 42 (.tmp 1) rfl ⟨g,0,none⟩ (by with_unfolding_all rfl) v.cells _ Kw3.out Tryz.underlying42 rfl (Tryz.cmSize v) ?_))
  refine CG.out.mono ?_
  rintro e w5 ⟨rfl, hb4⟩
  have B15 := Lib.hid (hb13.trans (hb4.mono hb13.size))
  have RL5 := Lib.hid (Bw1.out.trans (B15.out.mono Bw1.out.size))
  by_cases hE0 : E = 0
  case neg =>
    have hE1 : (E != 0) = true := by simpa using hE0
    clear hb2 hb3 hb13 hb4
    go_wp2_with fail
    go_ret
    exact ⟨rfl, RL5.out⟩
  subst hE0
  have HVE := Lib.hid (show v.vE = 0 from HE.out.symm)
  have HF := Lib.hid (fine (Cm.fits HVE.out).val.1)
  clear hb2 hb3 hb13 hb4 CF CG CH HE RL3
  have Kw5 := Lib.hid (fun (W : World) (h : Below w5.heap.size w5 W) => rowCB (x := v) Nw1.out (B15.out.trans (h.mono B15.out.size)))
  have HV5 := Lib.hid ((HV.out.below B15.out).mono B15.out.size)
  have G5 := Lib.hid ((G.out.on B15.out).base B15.out.size)
  obtain ⟨S, hS⟩ : ∃ S, S = str v.ln := ⟨_, rfl⟩
  have PR := Lib.hid (fun (W : World) (h : Below w5.heap.size w5 W) => show Calls Tryz.prog 38 #[.agg v.cells.toArray] W fun e w' => e = .returned (.string S) ∧ Below W.heap.size W w' from by
    rw [hS]; exact cprint_any v w5.heap.size W (HV5.out.below h) HVE.out h.size (G5.out.on h))
  have P5 := Lib.hid (PR.out w5 (Below.refl _ _))
  have K5 := Lib.hid (Kw5.out w5 (Below.refl _ _))
  clear hS
  go_wp2_with (first | (with_reducible show wpList _ _ _ _ _ _; refine wpList_load_allW rfl 42 (.tmp 1) rfl ⟨g,0,none⟩ rfl v.cells _ K5.out Tryz.underlying42 rfl (Tryz.cmSize v) ?_))
  refine P5.out.mono ?_
  rintro e w6 ⟨rfl, hb6⟩
  have K6 := Lib.hid (Kw5.out w6 hb6)
  have CE := Lib.hid (cevent_any v HF.out.dpr w5.heap.size w6 (HV5.out.below hb6) hb6.size ((G5.out.on hb6).base hb6.size))
  have B56 := Lib.hid hb6
  clear hb6
  go_wp2_with (first | (with_reducible show wpList _ _ _ _ _ _; refine wpList_load_allW rfl 42 (.tmp 1) rfl ⟨g,0,none⟩ rfl v.cells _ K6.out Tryz.underlying42 rfl (Tryz.cmSize v) ?_))
  refine CE.out.mono ?_
  rintro e w7 ⟨y, rfl, hy, hb7⟩
  obtain ⟨V, hV⟩ : ∃ V : Ev, V = { v.ev 0 with val := y } := ⟨_, rfl⟩
  rw [← hV]
  obtain ⟨w8, hw8⟩ : ∃ bx, bx = w7.alloc (.cells V.cells.toArray 28) := ⟨_, rfl⟩
  obtain ⟨go, hgo⟩ : ∃ bx, bx = w7.heap.size := ⟨_, rfl⟩
  have bw8 : Below w7.heap.size w7 w8 := by rw [hw8]; exact (Below.refl _ _).alloc (Nat.le_refl _) _
  have nw8 : w8.heap[go]? = some (.cells V.cells.toArray 28 (0, 0)) := by rw [hw8, hgo]; exact heap_alloc_new _ _
  have Kw8 := Lib.hid (rowE nw8)
  have Cw8 := Lib.hid (evC nw8)
  have Hw8 := Lib.hid hw8
  have Hgo := Lib.hid hgo
  have Bw8 := Lib.hid bw8
  have Nw8 := Lib.hid nw8
  clear hw8 hgo bw8 nw8
  obtain ⟨vk, vn, vs, va, vc, vl⟩ := y
  have hval : V.val = VT.mk vk vn vs va vc vl := by rw [hV]
  have L0 : EoLoop w6 go va vl.length vc w8 := by
    have hb8 : Below w6.heap.size w6 w8 := hb7.trans (Bw8.out.mono hb7.size)
    refine ⟨hb8, lt_of_rowK Nw8.out, ?_, fun hn => ?_⟩
    · rw [cell_of_rowW w8 go 10 _ _ _ Nw8.out]
      unfold Ev.cells
      rw [hval]
      rfl
    · have hne : vl ≠ [] := fun e => hn (by rw [e]; rfl)
      have ho := (hy.below Bw8.out).2.2.2
      rw [VT.Own] at ho
      have own := ho hne
      refine ⟨⟨_, own⟩, fun e => ?_⟩
      rcases own.2 with ⟨e1, e0⟩ | ⟨g', cap', cur, e1, hB, hh, _⟩
      · exact hn e0
      · injection e1 with e1
        subst e1
        have hlt := (hy.2.2.2 hne).lt
        have e : go = g' := by simpa [Value.ownBlock] using e
        have h1 := (hlt g' rfl).2
        have h2 := Hgo.out
        omega
  have hnb : vl.length ≤ 140737488355328 := by
    have := hy.2.1.fit
    omega
  have HL0 := Lib.hid L0
  have HNB := Lib.hid hnb
  have hcl := L0.cell
  obtain ⟨n, hn⟩ : ∃ n, n = vl.length := ⟨_, rfl⟩
  rw [← hn] at HL0 HNB hcl
  clear hval L0 hnb hy hb7 hV CE P5 K5 K6 hn
  go_upto_region 7 with (with_reducible show wpList _ _ _ _ _ _; refine wpList_store_newW rfl 28 (.tmp 4) (.tmp 20) rfl 28 _ V.cells.toArray rfl rfl (Tryz.evSize' V) (by with_unfolding_all exact Ev.eleven V) V.cells_one ?_; rw [← Hw8.out, ← Hgo.out])
  go_wp2_with fail
  clear hcl
  go_loopw [25] (fun i wr => eoRel w6 go va n vc i wr) (fun i _ => n - (intOf i).toNat)
  case atStart => exact ⟨0, rfl, Nat.zero_le _, HL0.out⟩
  case round =>
    obtain ⟨wq, rfl⟩ : ∃ wq : World, wq = wr := ⟨_, rfl⟩
    obtain ⟨j, rfl, hj, hL⟩ := hrel
    have q0 : (0 : Int) ≤ (j : Int) := by omega
    by_cases hjn : j < n
    · have q1 : (j : Int) < (n : Int) := by omega
      have f10 := Lib.hid (hL.cell)
      obtain ⟨⟨cs, own⟩, hne⟩ := hL.own (by omega)
      obtain ⟨gr, rfl⟩ : ∃ gr, va = some ⟨gr, 0, none⟩ := by
        rcases own.2 with ⟨_, h0⟩ | ⟨g', cap, cur, e1, _⟩
        · omega
        · injection e1 with e1 _ _
          exact ⟨g', e1⟩
      have HGR := Lib.hid (own.lt gr rfl)
      have OWN := Lib.hid own
      have HLL := Lib.hid hL
      have HNE := Lib.hid hne
      have SZ := Lib.hid (Tryz.valSize' ZN)
      clear own hne hL
      go_upto_region 10 with fail
      refine wp_region_slotsM 6 (by kernel_rfl) (by kernel_rfl) rfl (by kernel_rfl)
        (fun y => ⟨#[Value.agg v.cells.toArray, Value.pointer (some { block := g, off := 0 }), Value.bool false, Value.string S, Value.pointer (some { block := go, off := 0 }), Value.int IntKind.i64 ↑j, Value.bool true, Value.bool false, Value.agg v.cells.toArray, Value.slice (some { block := w2.heap.size, off := 0 }) 1 1, Value.bool true, Value.bool false, Value.bool false, Value.agg v.cells.toArray, Value.int IntKind.i64 0, Value.bool false, Value.bool false, Value.agg v.cells.toArray, Value.string S, Value.agg v.cells.toArray, Value.agg V.cells.toArray, Value.pointer (some { block := go, off := 7 }), Value.pointer (some { block := go, off := 10 }), Value.slice (some { block := gr, off := 0 }) n vc, Value.int IntKind.i64 ↑n, Value.int IntKind.i64 ↑j, Value.bool true, Value.int IntKind.i64 ↑j, y 0, y 1, y 2, y 3, y 4, y 5, u34, undef, undef, undef, undef], []⟩)
        (fun L x W => (∀ i, L i = true → coF go gr n vc j i (x i)) ∧ Below wq.heap.size wq W)
        (fun _ W => ∃ w0, Below wq.heap.size wq w0 ∧ W = w0.setCells gr (j * 4) ZN.cells)
        ?_ ?_ ?_ (fun i => match i with | 0 => u28 | 1 => u29 | 2 => u30 | 3 => u31 | 4 => u32 | 5 => u33 | _ => undef) rfl ⟨(fun i h => by cases h), below_drewG (Below.refl _ _) 1⟩
      · rintro i o hi ho L y wx hd hl ⟨hf, hb⟩
        match i, ho with
        | 0, ho =>
          obtain rfl := Option.some.inj ho
          exact .inl ⟨rfl, slot_run (v := .pointer (some ⟨go, 7, none⟩)) (w' := wx) rfl ⟨_, rfl, coF_upd hf rfl, hb⟩⟩
        | 1, ho =>
          obtain rfl := Option.some.inj ho
          have y0 : y 0 = .pointer (some ⟨go, 7, none⟩) := hf 0 (hd ⟨0, .data⟩ (by simp) rfl)
          refine .inl ⟨rfl, slot_run (v := .pointer (some ⟨go, 10, none⟩)) (w' := wx) ?_ ⟨_, rfl, coF_upd hf rfl, hb⟩⟩
          refine runWithK (fun z => match z with | .tmp 28 => y 0 | .const c => c | _ => undef) (by kernel_rfl) ?_
          rw [y0]
          go_simp
        | 2, ho =>
          obtain rfl := Option.some.inj ho
          have y1 : y 1 = .pointer (some ⟨go, 10, none⟩) := hf 1 (hd ⟨1, .data⟩ (by simp) rfl)
          have c1 : wx.cell? ⟨go, 10, none⟩ = some (.slice (some ⟨gr, 0, none⟩) n vc) := (World.cell?_of_block (a := ⟨go, 10, none⟩) (hb.block go HLL.out.size)).trans f10.out
          refine .inl ⟨rfl, slot_run (v := .slice (some ⟨gr, 0, none⟩) n vc) (w' := wx) ?_ ⟨_, rfl, coF_upd hf rfl, hb⟩⟩
          refine runWithK (fun z => match z with | .tmp 29 => y 1 | .const c => c | _ => undef) (by kernel_rfl) ?_
          rw [y1]
          go_simp
        | 3, ho =>
          obtain rfl := Option.some.inj ho
          exact .inl ⟨rfl, slot_run (v := .int .i64 (j : Int)) (w' := wx) rfl ⟨_, rfl, coF_upd hf rfl, hb⟩⟩
        | 4, ho =>
          obtain rfl := Option.some.inj ho
          refine .inl ⟨rfl, slot_call #[.int .i64 9] rfl Tryz.func42 (by kernel_rfl) (by kernel_rfl) (by simp [Act.eval]) ?_⟩
          refine (ZN_any wx).mono ?_
          rintro e w' ⟨rfl, hbz⟩
          exact ⟨_, rfl, _, rfl, coF_upd hf rfl, hb.trans (hbz.mono hb.size)⟩
        | 5, ho =>
          obtain rfl := Option.some.inj ho
          have y2 : y 2 = .slice (some ⟨gr, 0, none⟩) n vc := hf 2 (hd ⟨2, .data⟩ (by simp) rfl)
          have y3 : y 3 = .int .i64 (j : Int) := hf 3 (hd ⟨3, .data⟩ (by simp) rfl)
          refine .inl ⟨rfl, slot_run (v := .pointer (some ⟨gr, j * 4, none⟩)) (w' := wx) ?_ ⟨_, rfl, coF_upd hf rfl, hb⟩⟩
          refine runWithK (fun z => match z with | .tmp 30 => y 2 | .tmp 31 => y 3 | .const c => c | _ => undef) (by kernel_rfl) ?_
          rw [y2, y3]
          go_simp
        | k + 6, ho => omega
      · rintro o ho L y wx hall ⟨hf, hbx⟩
        obtain rfl := Option.some.inj ho
        have y4 : y 4 = .agg ZN.cells.toArray := hf 4 (hall 4 (by omega))
        have y5 : y 5 = .pointer (some ⟨gr, j * 4, none⟩) := hf 5 (hall 5 (by omega))
        have thx : wx.there gr (j * 4) ZN.cells.toArray.size := by
          rw [List.size_toArray, VT.cells_len]
          exact own_there (own_belowK OWN.out hbx) hjn
        refine ⟨rfl, wp_store_mid 26 (.tmp 33) (.tmp 32) rfl gr (j * 4) ZN.cells.toArray (show _ = Value.pointer (some ⟨gr, j * 4, none⟩) by exact y5) (show _ = Value.agg ZN.cells.toArray by exact y4) thx SZ.out ZN.cells_one ⟨undef, rfl, wx, hbx, rfl⟩⟩
      · rintro y wx ⟨w0, hb0, rfl⟩
        have RL := Lib.hid (show EoLoop w6 go (some ⟨gr, 0, none⟩) n vc (w0.setCells gr (j * 4) ZN.cells) from by
          have hl := HLL.out
          have hbl := hl.low.trans (hb0.mono hl.low.size)
          obtain ⟨cs', own'⟩ := own_setCells (own_belowK OWN.out hb0) (j * 4) ZN.cells
          have hne : go ≠ gr := fun e => HNE.out (by rw [e]; rfl)
          have hrow := (setCells_other gr go hne ZN.cells (j * 4) w0).trans (hb0.block go hl.size)
          have hlt : go < (w0.setCells gr (j * 4) ZN.cells).heap.size := by
            have h1 := below_setCells (w0 := wq) gr (Nat.zero_le gr) ZN.cells (j * 4) w0 (hb0.mono (Nat.zero_le _))
            exact Nat.lt_of_lt_of_le hl.size h1.size
          exact ⟨below_setCells gr HGR.out.1 _ _ _ hbl, hlt, (World.cell?_of_block (a := ⟨go, 10, none⟩) hrow).trans hl.cell, fun _ => ⟨⟨cs', own'⟩, HNE.out⟩⟩)
        have hnb := HNB.out
        clear hb0
        go_wp2_with fail
        exact ⟨⟨j + 1, rfl, hjn, RL.out⟩, by simp [intOf]; omega⟩
    · have q1 : ¬ (j : Int) < (n : Int) := by omega
      have HLw := Lib.hid hL.low
      have B5q := Lib.hid (B56.out.trans (HLw.out.mono B56.out.size))
      have Kq := Lib.hid (Kw5.out wq B5q.out)
      have Pq := Lib.hid (PR.out wq B5q.out)
      have RLq := Lib.hid (RL5.out.trans (B5q.out.mono RL5.out.size))
      have HQ : (S.toList == S.toList) = true := beq_self_eq_true _
      clear hL
      go_wp2_with (first | (with_reducible show wpList _ _ _ _ _ _; refine wpList_load_allW rfl 42 (.tmp 1) rfl ⟨g,0,none⟩ rfl v.cells _ Kq.out Tryz.underlying42 rfl (Tryz.cmSize v) ?_))
      refine Pq.out.mono ?_
      rintro e w8 ⟨rfl, hb8⟩
      have RLF := Lib.hid (RLq.out.trans (hb8.mono RLq.out.size))
      clear hb8
      go_wp2_with fail
      go_ret
      exact ⟨by simp, RLF.out⟩
end Go.Proofs.YtnfobnnbeefeeaaGreatDoor.Wi
