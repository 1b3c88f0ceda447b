/- A region that draws its order: operations that only make values, and some that turn memory, told by a parameter: of no program. -/
import Derived.Test.YtkmhbbcppjckiaaK0E
import Derived.Test.YtkmhbbcppjckiaaK0C
namespace Go.Proofs.Ytkmhbbcppjckiaa
open Go
section
variable {P : Program} {ops : Array Oper} {Q : Exit → Act → World → Prop}
theorem wp_region_par {α : Type} {id : Nat} {a : Act} {w : World} (hm : P.follows .mixedOrders = true) (hback : backOkG ops = true) (hg : ops.all (fun o => o.guard.isNone) = true) (mk : (Nat → Value) → Act) (F : α → Nat → Value → Prop) (I : (Nat → Bool) → α → World → Prop) (src : Nat → Bool) (later : Nat → Nat → Bool)
    (hlater : ∀ i j o, src i = true → later i j = true → ops[j]? = some o → ∃ e ∈ o.after, Region.binds .any e = true ∧ (e.on = i ∨ later i e.on = true))
    (hq : ∀ i o, src i = false → ops[i]? = some o → ∀ (L : Nat → Bool) (p : α) (x : Nat → Value) (w : World), (∀ e ∈ o.after, Region.binds .any e = true → F p e.on (x e.on)) → L i = false → I L p w →
      ∃ v, (execOp (mk x).eval o).run P w = .ok (.value v) w ∧ (mk x).put o.dst v = mk (upd x i v) ∧ F p i v ∧ I (upd L i true) p w)
    (hs : ∀ i o, src i = true → ops[i]? = some o → ∀ (L : Nat → Bool) (p : α) (x : Nat → Value) (w : World), (∀ e ∈ o.after, Region.binds .any e = true → L e.on = true ∧ F p e.on (x e.on)) → L i = false → (∀ j, later i j = true → L j = false) → I L p w →
      o.wp P (mk x) w (fun a' w' => ∃ v p', a' = mk (upd x i v) ∧ F p' i v ∧ (∀ j q, j ≠ i → later i j = false → F p j q → F p' j q) ∧ I (upd L i true) p' w') Q)
    (hend : ∀ L p x w, (∀ j, j < ops.size → L j = true ∧ F p j (x j)) → I L p w → Q .normal (mk x) w)
    (x0 : Nat → Value) (p0 : α) (h0 : a = mk x0) (hI : I (fun _ => false) p0 w.drew) : (Code.region id ops true).wp P Q a w := by
  refine wp_region_slotsJ hm hback mk (fun L x w => (∀ i j, src i = true → later i j = true → j < ops.size → L j = true → L i = true) ∧ (∀ j, L j = true → j < ops.size) ∧ ∃ p, I L p w ∧ ∀ j, L j = true → F p j (x j)) ?_ ?_ x0 h0 ⟨(fun i j _ _ _ h => by cases h), (fun j h => by cases h), p0, hI, fun j h => by cases h⟩
  · rintro i o ho L x w hd hi ⟨hc, hsz, p, hIp, hF⟩
    have hgd : o.guard = none := by
      have h := Array.all_eq_true'.1 hg o (Array.mem_of_getElem? ho)
      simpa using h
    have hilt : i < ops.size := (Array.getElem?_eq_some_iff.1 ho).1
    have hwant : ∀ t, Region.wanted o t = true := fun t => by unfold Region.wanted; rw [hgd]
    have hcl : ∀ i' j, src i' = true → later i' j = true → j < ops.size → upd L i true j = true → upd L i true i' = true := by
      intro i' j hs' hl hj hL
      by_cases hii : i' = i
      · rw [hii, upd_self]
      · rw [upd_ne _ _ hii]
        by_cases hji : j = i
        · subst hji
          obtain ⟨e, he, hb, hor⟩ := hlater i' j o hs' hl ho
          have hLe := hd e he hb
          rcases hor with h | h
          · rw [← h]; exact hLe
          · exact hc i' e.on hs' h (Nat.lt_trans (backOkG_spec hback ho e he hb) hilt) hLe
        · rw [upd_ne _ _ hji] at hL
          exact hc i' j hs' hl hj hL
    have hsz' : ∀ j, upd L i true j = true → j < ops.size := by
      intro j hj
      by_cases hji : j = i
      · rw [hji]; exact hilt
      · rw [upd_ne _ _ hji] at hj
        exact hsz j hj
    refine .inl ⟨hwant _, ?_⟩
    cases hsi : src i with
    | false =>
      obtain ⟨v, hr, hp, hFv, hIv⟩ := hq i o hsi ho L p x w (fun e he hb => hF e.on (hd e he hb)) hi hIp
      exact slot_run (v := v) (w' := w) hr ⟨v, hp, hcl, hsz', p, hIv, updJ hF hFv⟩
    | true =>
      refine Oper.wp_mono (fun a' w' h' => ?_) (hs i o hsi ho L p x w (fun e he hb => ⟨hd e he hb, hF e.on (hd e he hb)⟩) hi (fun j hl => by
        cases hj : L j with
        | false => rfl
        | true =>
          have := hc i j hsi hl (hsz j hj) hj
          rw [hi] at this
          cases this) hIp)
      obtain ⟨v, p', rfl, hFv, hkeep, hIv⟩ := h'
      refine ⟨v, rfl, hcl, hsz', p', hIv, fun j hj => ?_⟩
      by_cases hji : j = i
      · subst hji; rw [upd_self]; exact hFv
      · rw [upd_ne _ _ hji] at hj ⊢
        by_cases hlj : later i j = true
        · have := hc i j hsi hlj (hsz j hj) hj
          rw [hi] at this
          cases this
        · exact hkeep j _ hji (by simpa using hlj) (hF j hj)
  · rintro L x w hall ⟨hc, _, p, hIp, hF⟩
    exact hend L p x w (fun j hj => ⟨hall j hj, hF j (hall j hj)⟩) hIp
/-- What is to be looked up of such a region's order, for the kernel. -/
def parOk (ops : Array Oper) (srcs : List Nat) (later : Nat → Nat → Bool) : Bool := srcs.all fun i => (List.range ops.size).all fun j => !later i j || (match ops[j]? with
  | some o => o.after.toList.any fun e => Region.binds .any e && (e.on == i || later i e.on)
  | none => true)
theorem parOk_spec {srcs : List Nat} {later : Nat → Nat → Bool} (h : parOk ops srcs later = true) : ∀ i j o, srcs.contains i = true → later i j = true → ops[j]? = some o → ∃ e ∈ o.after, Region.binds .any e = true ∧ (e.on = i ∨ later i e.on = true) := by
  intro i j o hi hl ho
  have h1 := List.all_eq_true.1 h i (by simpa using hi)
  have h2 := List.all_eq_true.1 h1 j (List.mem_range.2 (Array.getElem?_eq_some_iff.1 ho).1)
  rw [hl, ho] at h2
  simp only [Bool.not_true, Bool.false_or] at h2
  obtain ⟨e, he, hb⟩ := List.any_eq_true.1 h2
  refine ⟨e, by simpa using he, ?_⟩
  simpa using hb
end
end Go.Proofs.Ytkmhbbcppjckiaa
/- Steps of a region that draws its order. Of no program. -/
namespace Go.Proofs.Ytkmhbbcppjckiaa
open Go Go.RowKit
set_option linter.unusedVariables false
set_option linter.unusedSimpArgs false
theorem runWithP {P : Program} {o : Oper} {a : Act} {w : World} {r : Result Next} (ev : Operand → Value) (h1 : (execOp a.eval o).run P w = (execOp ev o).run P w) (h2 : (execOp ev o).run P w = r) : (execOp a.eval o).run P w = r := h1.trans h2
theorem slot_storeP {P : Program} {Q : Exit → Act → World → Prop} {o : Oper} {a : Act} {w : World} {K : Act → World → Prop} (ty : TypeId) (x y : Operand) (ho : o.op = .store ty x y)
    (g : Nat) (t : TypeId) (old cells : Array Value) (hx : a.eval x = .pointer (some ⟨g, 0, none⟩)) (hy : a.eval y = .agg cells) (hg : w.heap[g]? = some (.cells old t (0, 0)))
    (hi : (P.info? ty).map (·.size) = some cells.size) (hs : old.size = cells.size) (h1 : cells.all (·.oneCell') = true)
    (h : K (a.put o.dst undef) (w.setRow g cells)) : o.wp P a w K Q := by
  unfold Oper.wp execOp
  simp only [ho, hx, hy, Instr.storeAt, Instr.sureAddr, Sem.run_bind, Sem.run_pure, Result.andThen_ok, run_storeVar_row w g t ty old cells hg hi hs h1]
  exact h
theorem run_loadP {P : Program} {o : Oper} {a : Act} {w : World} (ty : TypeId) (x : Operand) (ho : o.op = .load ty x)
    (p : Addr) (hx : a.eval x = .pointer (some p)) (cs : List Value) (d : TypeDesc) (hc : ∀ j v, cs[j]? = some v → w.cell? (p.add j) = some v)
    (hu : P.underlying ty = some d) (hd : d.isRow = true) (hi : (P.info? ty).map (·.size) = some cs.length) : (execOp a.eval o).run P w = .ok (.value (.agg cs.toArray)) w := by
  unfold execOp
  simp only [ho, hx, Instr.loadAt, Instr.sureAddr, Sem.run_bind, Sem.run_pure, Result.andThen_ok, run_loadVar_allW w p ty cs d hc hu hd hi]
/-- A step of it that turns memory and yields nothing. -/
theorem slot_turnP {P : Program} {Q : Exit → Act → World → Prop} {o : Oper} {a : Act} {w w' : World} {K : Act → World → Prop} (hr : (execOp a.eval o).run P w = .ok .skip w') (h : K (a.put o.dst undef) w') : o.wp P a w K Q := by
  unfold Oper.wp
  rw [hr]
  exact h
/-- A step of it that makes or turns memory and yields a value. -/
theorem slot_giveP {P : Program} {Q : Exit → Act → World → Prop} {o : Oper} {a : Act} {w w' : World} {v : Value} {K : Act → World → Prop} (hr : (execOp a.eval o).run P w = .ok (.value v) w') (h : K (a.put o.dst v) w') : o.wp P a w K Q := by
  unfold Oper.wp
  rw [hr]
  exact h
end Go.Proofs.Ytkmhbbcppjckiaa
/- The queue's first one. -/
namespace Go.Proofs.Ytkmhbbcppjckiaa.Qu
open Go Go.RowKit Go.Proofs.Ytkmhbbcppjckiaa
open Go.Proofs.Ytkmhbbcppjckiaa.Hp (K3 kv KLit wf3 i64wf kv_inj)
open Go.Proofs.Ytkmhbbcppjckiaa.Dk (Frm below_drewN Frm.of_below Frm.setCell Frm.refl Frm.drewN)
set_option linter.unusedVariables false
set_option linter.unusedSimpArgs false
set_option maxRecDepth 100000
theorem results_row_tmp2 {P : Program} {fn : Func} {p u1 u2 : Tmp} {ty : TypeId} (h : fn.results = #[.cell p ty, .tmp u1, .tmp u2]) (tmps : Array Value) (w : World) (g : Nat) (t : TypeId) (cs : List Value) (fr : Nat × Nat) (d : TypeDesc) (v1 v2 : Value)
    (hv1 : tmps.getD u1 undef = v1) (hv2 : tmps.getD u2 undef = v2) (hp : tmps.getD p undef = .pointer (some ⟨g, 0, none⟩)) (hg : w.heap[g]? = some (.cells cs.toArray t fr)) (hu : P.underlying ty = some d) (hd : d.isRow = true) (hi : (P.info? ty).map (·.size) = some cs.length) :
    (results fn tmps).run P w = .ok (.tuple #[.agg cs.toArray, v1, v2]) w := by
  have hp' : tmps[p]?.getD undef = .pointer (some ⟨g, 0, none⟩) := by simpa using hp
  have hv1' : tmps[u1]?.getD undef = v1 := by simpa using hv1
  have hv2' : tmps[u2]?.getD undef = v2 := by simpa using hv2
  have hl := run_loadVar_mid (P := P) w g 0 ty cs d (fun j u hu => by
    rw [Nat.zero_add, cell_of_row w g j _ _ _ hg]
    simpa using hu) hu hd hi
  simp [results, h, hp', hv1', hv2', asAddr, hl]
variable {w : World} {b o : Nat} {R : Array Value} {ty : TypeId} {mo : Option Nat} {L : List Lk}
def k0 : K3 := (0, 0, 0)
theorem kcs_one (k : K3) : (kcs k).toArray.all (·.oneCell') = true := by simp [kcs, Value.oneCell']
theorem wcs_one (k : K3) (s : Int) : (wcs k s).toArray.all (·.oneCell') = true := by simp [wcs, Value.oneCell']
theorem below_setRowK {B : Nat} {w w1 : World} {g : Nat} (h : Below B w w1) (hg : B ≤ g) (cs : Array Value) : Below B w (w1.setRow g cs) :=
  ⟨h.os, h.tape, h.output, by simpa using h.size, fun k hk => (setRow_other w1 g k cs (by omega)).trans (h.block k hk)⟩
theorem qfirst_nil (h : CAt w b o R ty mo []) : Calls Try.prog 23 #[.pointer (some ⟨b, o, none⟩)] w fun e w' => e = .returned (.tuple #[.agg (kcs k0).toArray, .int .i64 0, .bool false]) ∧ Below w.heap.size w w' := by
  obtain ⟨w2, hw2⟩ : ∃ w2, w2 = w.alloc (.cells (kcs k0).toArray 32) := ⟨_, rfl⟩
  obtain ⟨g, hg⟩ : ∃ g, g = w.heap.size := ⟨_, rfl⟩
  have b2 : Below w.heap.size w w2 := by rw [hw2]; exact (Below.refl _ _).alloc (Nat.le_refl _) _
  have n2 : w2.heap[g]? = some (.cells (kcs k0).toArray 32 (0, 0)) := by rw [hw2, hg]; exact heap_alloc_new _ _
  obtain ⟨c0, c1, c2, f0, f1, f2⟩ := (h.row.keep (b2.block b h.row.lt)).cells
  replace c0 : w2.cell? ⟨b, o, none⟩ = some (.pointer none) := c0
  have SZ := Lib.hid (show (Try.prog.info? 32).map (·.size) = some (kcs k0).toArray.size by kernel_rfl)
  have B2 := Lib.hid b2
  have N2 := Lib.hid n2
  have HW2 := Lib.hid hw2
  have HG := Lib.hid hg
  clear h b2 n2 hw2 hg c1 c2 f0 f1 f2
  go_enter Try.func23, Try.ntmps23
  go_upto_region 1 with fail
  rw [show (#[.int .i64 0, .int .i64 0, .int .i64 0] : Array Value) = (kcs k0).toArray from rfl, ← HW2.out, ← HG.out]
  go_wp2_with (with_reducible show wpList _ _ _ _ _ _; refine wpList_store_whole rfl 32 (.tmp 2) (.tmp 12) rfl g 32 _ (kcs k0).toArray (by with_unfolding_all rfl) (by with_unfolding_all rfl) N2.out SZ.out rfl (by kernel_rfl) ?_)
  refine bodyPost_ret (results_row_tmp2 rfl _ _ g 32 (kcs k0) (0, 0) _ _ _ rfl rfl rfl (setRow_heap _ g _ _ _ _ N2.out) Try.underlying32 rfl SZ.out) rfl ?_
  exact ⟨rfl, below_setRowK B2.out (Nat.le_of_eq HG.out.symm) _⟩
theorem qfirst_cons {x : Lk} (h : CAt w b o R ty mo (x :: L)) : Calls Try.prog 23 #[.pointer (some ⟨b, o, none⟩)] w fun e w' => e = .returned (.tuple #[.agg (kcs x.key).toArray, .int .i64 x.since, .bool true]) ∧ Below w.heap.size w w' := by
  obtain ⟨w2, hw2⟩ : ∃ w2, w2 = w.alloc (.cells (kcs k0).toArray 32) := ⟨_, rfl⟩
  obtain ⟨g, hg⟩ : ∃ g, g = w.heap.size := ⟨_, rfl⟩
  have b2 : Below w.heap.size w w2 := by rw [hw2]; exact (Below.refl _ _).alloc (Nat.le_refl _) _
  have n2 : w2.heap[g]? = some (.cells (kcs k0).toArray 32 (0, 0)) := by rw [hw2, hg]; exact heap_alloc_new _ _
  obtain ⟨c0, c1, c2, f0, f1, f2⟩ := (h.row.keep (b2.block b h.row.lt)).cells
  obtain ⟨a, ha⟩ : ∃ a, a = x.ad := ⟨_, rfl⟩
  replace c0 : w2.cell? ⟨b, o, none⟩ = some (.pointer (some ⟨a, 0, none⟩)) := by rw [ha]; exact c0
  have KX : ∀ j v, (wcs x.key x.since)[j]? = some v → w2.cell? ((⟨a, 0, none⟩ : Addr).add j) = some v := by
    intro j v hj
    have hx := (b2.block x.ad (h.chain.lt x (by simp))).trans h.chain.1
    rw [Addr.add_mid, Nat.zero_add, ha, cell_of_row w2 x.ad j _ _ _ hx]
    match j, hj with
    | 0, hj => exact hj
    | 1, hj => exact hj
    | 2, hj => exact hj
    | 3, hj => exact hj
    | k + 4, hj => simp [wcs] at hj
  obtain ⟨w3, hw3⟩ : ∃ w3, w3 = w2.alloc (.cells (wcs x.key x.since).toArray 112) := ⟨_, rfl⟩
  obtain ⟨g3, hg3⟩ : ∃ g, g = w2.heap.size := ⟨_, rfl⟩
  have b3 : Below w2.heap.size w2 w3 := by rw [hw3]; exact (Below.refl _ _).alloc (Nat.le_refl _) _
  have n3 : w3.heap[g]? = some (.cells (kcs k0).toArray 32 (0, 0)) := (b3.block g (lt_of_rowW n2)).trans n2
  have r3 : w3.heap[g3]? = some (.cells (wcs x.key x.since).toArray 112 (0, 0)) := by rw [hw3, hg3]; exact heap_alloc_new _ _
  have s3 : w3.cell? ⟨g3, 3, none⟩ = some (.int .i64 x.since) := by rw [cell_of_row w3 g3 3 _ _ _ r3]; rfl
  have K3 : ∀ j v, (kcs x.key)[j]? = some v → w3.cell? ((⟨g3, 0, none⟩ : Addr).add j) = some v := by
    intro j v hj
    rw [Addr.add_mid, Nat.zero_add, cell_of_row w3 g3 j _ _ _ r3]
    match j, hj with
    | 0, hj => exact hj
    | 1, hj => exact hj
    | 2, hj => exact hj
    | k + 3, hj => simp [kcs] at hj
  have SZ := Lib.hid (show (Try.prog.info? 32).map (·.size) = some (kcs x.key).toArray.size by kernel_rfl)
  have SW := Lib.hid (show (Try.prog.info? 112).map (·.size) = some (wcs x.key x.since).toArray.size by kernel_rfl)
  have OW := Lib.hid (wcs_one x.key x.since)
  have OK := Lib.hid (kcs_one x.key)
  have B3 := Lib.hid (b2.trans (b3.mono b2.size))
  have N3 := Lib.hid n3
  have HW2 := Lib.hid hw2
  have HG := Lib.hid hg
  have HW3 := Lib.hid hw3
  have HG3 := Lib.hid hg3
  have NGG := Lib.hid (show g3 ≠ g from fun e => by have := lt_of_rowW n2; omega)
  clear h b2 n2 hw2 hg c1 c2 f0 f1 f2 hw3 hg3 b3 n3 r3 ha
  go_enter Try.func23, Try.ntmps23
  go_upto_region 1 with fail
  rw [show (#[.int .i64 0, .int .i64 0, .int .i64 0] : Array Value) = (kcs k0).toArray from rfl, ← HW2.out, ← HG.out]
  go_upto_region 4 with (first
    | (with_reducible show wpList _ _ _ _ _ _; refine wpList_load_allW rfl 112 (.tmp 19) rfl ⟨a, 0, none⟩ rfl (wcs x.key x.since) _ KX Try.underlying112 rfl (wtSize _ _) ?_)
    | (with_reducible show wpList _ _ _ _ _ _; refine wpList_store_newW rfl 112 (.tmp 5) (.tmp 20) rfl 112 _ (wcs x.key x.since).toArray (by with_unfolding_all rfl) (by with_unfolding_all rfl) SW.out rfl OW.out ?_))
  rw [← HW3.out, ← HG3.out]
  simp only [Act.put, List.setIfInBounds_toArray, List.set_cons_zero, List.set_cons_succ, List.getElem_toArray, List.getElem_cons_zero, List.getElem_cons_succ]
  have KF := Lib.hid (fun (u : World) (hu : u.heap[g3]? = w3.heap[g3]? ∧ Below w.heap.size w u) => show ∀ j v, (kcs x.key)[j]? = some v → u.cell? ((⟨g3, 0, none⟩ : Addr).add j) = some v from fun j v hj => by
    have := K3 j v hj
    rw [Addr.add_mid] at this ⊢
    rwa [World.cell?_of_block (w := w3) (a := ⟨g3, 0 + j, none⟩) hu.1])
  have SF := Lib.hid (fun (u : World) (hu : u.heap[g3]? = w3.heap[g3]? ∧ Below w.heap.size w u) => show u.cell? ⟨g3, 3, none⟩ = some (.int .i64 x.since) from by rw [World.cell?_of_block (w := w3) (a := ⟨g3, 3, none⟩) hu.1]; exact s3)
  have NG := Lib.hid (show g3 ≠ g from NGG.out)
  clear s3 K3 KX c0
  refine wp_region_par (α := Unit) (by kernel_rfl) (by kernel_rfl) (by kernel_rfl) (fun y => ⟨#[Value.pointer (some { block := b, off := o }), undef, Value.pointer (some { block := g, off := 0 }), y 5, y 6, Value.pointer (some { block := g3, off := 0 }), Value.pointer (some { block := b, off := o }), Value.pointer (some { block := b, off := o }), Value.pointer (some { block := b, off := o }), Value.pointer (some { block := b, off := o }), Value.pointer (some { block := a, off := 0 }), Value.bool false, undef, Value.pointer (some { block := b, off := o }), Value.pointer (some { block := b, off := o }), Value.pointer (some { block := b, off := o }), Value.pointer (some { block := b, off := o }), Value.pointer (some { block := a, off := 0 }), Value.pointer (some { block := a, off := 0 }), Value.pointer (some { block := a, off := 0 }), Value.agg (wcs x.key x.since).toArray, y 0, y 1, y 2, y 3], []⟩) (fun p j q => match j with | 0 => q = .pointer (some ⟨g3, 0, none⟩) | 1 => q = .agg (kcs x.key).toArray | 2 => q = .pointer (some ⟨g3, 3, none⟩) | 3 => q = .int .i64 x.since | 5 => q = .int .i64 x.since | 6 => q = .bool true | _ => True) (fun M p wx => (M 4 = true → wx.heap[g]? = some (.cells (kcs x.key).toArray 32 (0, 0))) ∧ (M 4 = false → wx.heap[g]? = some (.cells (kcs k0).toArray 32 (0, 0))) ∧ (wx.heap[g3]? = w3.heap[g3]? ∧ Below w.heap.size w wx)) (fun i => [4].contains i) (fun i j => decide (4 < j)) (parOk_spec (by kernel_rfl)) ?_ ?_ ?_ (fun k => match k with | 5 => .int .i64 0 | 6 => .bool false | _ => undef) () rfl ⟨(fun h => by cases h), (fun _ => N3.out), rfl, below_drewN B3.out 1⟩
  · intro i' o hsrc ho M p y wx hd hi' hI
    match i', ho with
    | 0, ho =>
      obtain rfl := Option.some.inj ho
      refine ⟨.pointer (some ⟨g3, 0, none⟩), ?_, rfl, rfl, hI⟩
      refine runWithP (fun z => match z with  | .tmp 5 => Value.pointer (some { block := g3, off := 0 }) | .const c => c | _ => undef) (by kernel_rfl) ?_
      go_simp
    | 1, ho =>
      obtain rfl := Option.some.inj ho
      have y0 : y 0 = .pointer (some ⟨g3, 0, none⟩) := hd ⟨0, .data⟩ (by simp) rfl
      exact ⟨.agg (kcs x.key).toArray, run_loadP 32 (.tmp 21) rfl ⟨g3, 0, none⟩ (by exact y0) (kcs x.key) _ (KF.out wx hI.2.2) Try.underlying32 rfl (tkSize _), rfl, rfl, hI⟩
    | 2, ho =>
      obtain rfl := Option.some.inj ho
      refine ⟨.pointer (some ⟨g3, 3, none⟩), ?_, rfl, rfl, hI⟩
      refine runWithP (fun z => match z with  | .tmp 5 => Value.pointer (some { block := g3, off := 0 }) | .const c => c | _ => undef) (by kernel_rfl) ?_
      go_simp
    | 3, ho =>
      obtain rfl := Option.some.inj ho
      have y0 : y 2 = .pointer (some ⟨g3, 3, none⟩) := hd ⟨2, .data⟩ (by simp) rfl
      have cx : wx.cell? ⟨g3, 3, none⟩ = some (.int .i64 x.since) := SF.out wx hI.2.2
      refine ⟨.int .i64 x.since, ?_, rfl, rfl, hI⟩
      refine runWithP (fun z => match z with | .tmp 23 => y 2 | .const c => c | _ => undef) (by kernel_rfl) ?_
      rw [y0]
      go_simp
    | 4, ho =>
      obtain rfl := Option.some.inj ho
      cases hsrc
    | 5, ho =>
      obtain rfl := Option.some.inj ho
      have y0 : y 3 = .int .i64 x.since := hd ⟨3, .data⟩ (by simp) rfl
      refine ⟨.int .i64 x.since, ?_, rfl, rfl, hI⟩
      refine runWithP (fun z => match z with | .tmp 24 => y 3 | .const c => c | _ => undef) (by kernel_rfl) ?_
      rw [y0]
      go_simp
    | 6, ho =>
      obtain rfl := Option.some.inj ho
      exact ⟨.bool true, rfl, rfl, rfl, hI⟩
    | j + 7, ho => cases ho
  · intro i' o hsrc ho M p y wx hd hi' hlat hI
    obtain rfl : i' = 4 := by simpa using hsrc
    obtain rfl := Option.some.inj ho
    have y1 : y 1 = .agg (kcs x.key).toArray := (hd ⟨1, .data⟩ (by simp) rfl).2
    refine slot_storeP 32 (.tmp 2) (.tmp 22) rfl g 32 (kcs k0).toArray (kcs x.key).toArray rfl y1 (hI.2.1 hi') SZ.out rfl OK.out ?_
    exact ⟨undef, (), rfl, trivial, fun j q _ _ h => h, fun _ => setRow_heap _ g _ _ _ _ (hI.2.1 hi'), (fun h => by cases h), (setRow_other _ _ _ _ NG.out).trans hI.2.2.1, below_setRowK hI.2.2.2 (Nat.le_of_eq HG.out.symm) _⟩
  · rintro M p y wx hall hI
    have y5 : y 5 = .int .i64 x.since := (hall 5 (by decide)).2
    have y6 : y 6 = .bool true := (hall 6 (by decide)).2
    try dsimp only
    rw [y5, y6]
    have N4 := Lib.hid (hI.1 (hall 4 (by decide)).1)
    have B4 := Lib.hid hI.2.2.2
    clear hI hall y5 y6
    go_wp2_with fail
    refine bodyPost_ret (results_row_tmp2 rfl _ _ g 32 (kcs x.key) (0, 0) _ _ _ rfl rfl rfl N4.out Try.underlying32 rfl SZ.out) rfl ?_
    exact ⟨rfl, B4.out⟩
end Go.Proofs.Ytkmhbbcppjckiaa.Qu
/- A task waits no more. -/
namespace Go.Proofs.Ytkmhbbcppjckiaa.Qu
open Go Go.RowKit Go.Proofs.Ytkmhbbcppjckiaa
open Go.Proofs.Ytkmhbbcppjckiaa.Hp (K3 kv KLit wf3 i64wf kv_inj)
open Go.Proofs.Ytkmhbbcppjckiaa.Dk (Frm below_drewN Frm.of_below Frm.setCell Frm.refl Frm.drewN Frm.turned Frm.trans Frm.mono)
set_option linter.unusedVariables false
set_option linter.unusedSimpArgs false
set_option maxRecDepth 100000
variable {w : World} {b o : Nat} {R : Array Value} {ty : TypeId} {mo : Option Nat} {L : List Lk}
theorem qremove_no (h : QAt w b o R ty mo L) (k : K3) (hk : wf3 k) (hno : adOf L k = none) : Calls Try.prog 17 #[.pointer (some ⟨b, o, none⟩), .agg (kcs k).toArray] w fun e w' => e = .returned (.bool false) ∧ Below w.heap.size w w' := by
  obtain ⟨w1, hw1⟩ : ∃ x, x = w.alloc (.cells (kcs k).toArray 32) := ⟨_, rfl⟩
  obtain ⟨g, hg⟩ : ∃ g, g = w.heap.size := ⟨_, rfl⟩
  have b1 : Below w.heap.size w w1 := by rw [hw1]; exact (Below.refl _ _).alloc (Nat.le_refl _) _
  have KT : ∀ j v, (kcs k)[j]? = some v → w1.cell? ((⟨g, 0, none⟩ : Addr).add j) = some v := by rw [hw1, hg]; exact box_task w k
  obtain ⟨c0, c1, c2, f0, f1, f2⟩ := (h.below b1).c.row.cells
  have LK := fun n => ((h.below b1).below (below_drewN (Below.refl _ _) n)).map.look qu_keyP hk
  rw [hno] at LK
  have LKK : ∀ n, (Instr.lookup 27 (.map mo) (.agg (kcs k).toArray) true).run Try.prog (w1.drewN n) = .ok (.tuple #[.pointer none, .bool false]) (w1.drewN n) := fun n => by rw [← kv_eq]; exact LK n
  have HW := Lib.hid hw1
  have HG := Lib.hid hg
  have B1 := Lib.hid b1
  clear h hw1 hg b1 f0 f1 f2 LK hno
  go_enter Try.func17, Try.ntmps17
  go_upto_region 1 with fail
  rw [← HW.out, ← HG.out]
  refine wp_region_quiet_lit (by kernel_rfl) (by kernel_rfl) ?_
  repeat (go_big_quiet_step (fail))
  refine wpQuiet_loadG (by kernel_rfl) 32 (.tmp 3) rfl ⟨g, 0, none⟩ rfl (kcs k) _ (fun w' hC => by obtain ⟨nl, rfl⟩ := hC; exact KT) Try.underlying32 rfl (tkSize k) ?_
  simp only [Act.put, List.setIfInBounds_toArray, List.set_cons_zero, List.set_cons_succ, List.getElem_toArray, List.getElem_cons_zero, List.getElem_cons_succ]
  repeat (go_big_quiet_step (fail))
  refine wpQuiet_nil ?_
  intro _ hw'
  obtain ⟨nq, hw''⟩ := hw'
  subst hw''
  go_wp2_with fail
  go_ret
  exact ⟨rfl, below_drewN B1.out nq⟩
theorem Frm.turnedK {T : Nat → Prop} {a w w' : World} (h : Frm T a w) {m : Nat} (ht : w.mapTurned w' m) (hm : T m ∨ a.heap.size ≤ m) : Frm T a w' := h.turned ht hm
theorem turned_block {w w' : World} {m q : Nat} (ht : w.mapTurned w' m) (hq : q ≠ m) (hlt : q < w.heap.size) : w'.heap[q]? = w.heap[q]? := ht.grown.block q hlt (fun e => by cases e; exact hq rfl)
theorem qremove_yes {A B : List Lk} {x : Lk} (h : QAt w b o R ty mo (A ++ x :: B)) : Calls Try.prog 17 #[.pointer (some ⟨b, o, none⟩), .agg (kcs x.key).toArray] w fun e w' => e = .returned (.bool true) ∧ QAt w' b o R ty mo (A ++ B) ∧ Frm (own b mo (A ++ x :: B)) w w' := by
  obtain ⟨w1, hw1⟩ : ∃ y, y = w.alloc (.cells (kcs x.key).toArray 32) := ⟨_, rfl⟩
  obtain ⟨g, hg⟩ : ∃ g, g = w.heap.size := ⟨_, rfl⟩
  have b1 : Below w.heap.size w w1 := by rw [hw1]; exact (Below.refl _ _).alloc (Nat.le_refl _) _
  have n1 : w1.heap[g]? = some (.cells (kcs x.key).toArray 32 (0, 0)) := by rw [hw1, hg]; exact heap_alloc_new _ _
  have KT : ∀ j v, (kcs x.key)[j]? = some v → w1.cell? ((⟨g, 0, none⟩ : Addr).add j) = some v := by rw [hw1, hg]; exact box_task w x.key
  obtain ⟨m, rfl⟩ : ∃ m, mo = some m := by
    cases mo with
    | none => have := h.map.1; simp at this
    | some m => exact ⟨m, rfl⟩
  obtain ⟨c0, c1, c2, f0, f1, f2⟩ := (h.below b1).c.row.cells
  have hwf := (h.wf x (by simp)).1
  have LK := fun n => ((h.below b1).below (below_drewN (Below.refl _ _) n)).map.look qu_keyP hwf
  rw [adOf_mid h.keys] at LK
  obtain ⟨ax, hax⟩ : ∃ ax, ax = x.ad := ⟨_, rfl⟩
  rw [← hax] at LK
  have LKK : ∀ n, (Instr.lookup 27 (.map (some m)) (.agg (kcs x.key).toArray) true).run Try.prog (w1.drewN n) = .ok (.tuple #[.pointer (some ⟨ax, 0, none⟩), .bool true]) (w1.drewN n) := fun n => by rw [← kv_eq]; exact LK n
  have H1 := Lib.hid (h.below b1)
  have HW := Lib.hid hw1
  have HG := Lib.hid hg
  have B1 := Lib.hid b1
  have N1 := Lib.hid n1
  have HAX := Lib.hid hax
  have WF := Lib.hid hwf
  have GNE := Lib.hid (show ¬ own b (some m) (A ++ x :: B) g from fun e => by have := h.lt e; omega)
  clear h hw1 hg b1 n1 f0 f1 f2 LK hax hwf c0 c1
  go_enter Try.func17, Try.ntmps17
  go_upto_region 1 with fail
  rw [← HW.out, ← HG.out]
  refine wp_region_quiet_lit (by kernel_rfl) (by kernel_rfl) ?_
  repeat (go_big_quiet_step (fail))
  refine wpQuiet_loadG (by kernel_rfl) 32 (.tmp 3) rfl ⟨g, 0, none⟩ rfl (kcs x.key) _ (fun w' hC => by obtain ⟨nl, rfl⟩ := hC; exact KT) Try.underlying32 rfl (tkSize x.key) ?_
  simp only [Act.put, List.setIfInBounds_toArray, List.set_cons_zero, List.set_cons_succ, List.getElem_toArray, List.getElem_cons_zero, List.getElem_cons_succ]
  repeat (go_big_quiet_step (fail))
  refine wpQuiet_nil ?_
  intro _ hw'
  obtain ⟨nq, hw''⟩ := hw'
  subst hw''
  obtain ⟨w2, hw2⟩ : ∃ y, y = w1.drewN nq := ⟨_, rfl⟩
  rw [← hw2]
  have b2 : Below w1.heap.size w1 w2 := by rw [hw2]; exact below_drewN (Below.refl _ _) nq
  have H2 := Lib.hid (H1.out.below b2)
  have N2 := Lib.hid ((b2.block g (lt_of_rowW N1.out)).trans N1.out)
  have B2 := Lib.hid (B1.out.trans (b2.mono B1.out.size))
  have LO := Lib.hid (loose_any H2.out.c)
  rw [← HAX.out] at LO
  clear hw2 b2 KT c2 LKK
  go_wp2_with fail
  refine LO.out.mono ?_
  rintro e w3 ⟨rfl, hC3, hF3⟩
  have mne := H2.out.msep rfl
  have nm : ¬ qT b (A ++ B) m := by
    rintro (e | ⟨y, hy, e⟩)
    · exact mne.1 e
    · exact mne.2 y (by rcases List.mem_append.1 hy with hy | hy <;> simp [hy]) e
  have hsub : ∀ q, qT b (A ++ B) q → own b (some m) (A ++ x :: B) q := by
    rintro q (e | ⟨y, hy, e⟩)
    · exact .inl e
    · exact .inr (.inr ⟨y, by rcases List.mem_append.1 hy with hy | hy <;> simp [hy], e⟩)
  have m3 : MapP Try.prog 32 w3 (some m) (A ++ x :: B).length (adOf (A ++ x :: B)) := H2.out.map.keep (fun m' hm' => by cases hm'; exact hF3.block m H2.out.map.lt nm)
  have n3 : w3.heap[g]? = some (.cells (kcs x.key).toArray 32 (0, 0)) := (hF3.block g (lt_of_rowW N2.out) (fun e => GNE.out (hsub g e))).trans N2.out
  have f3 : Frm (own b (some m) (A ++ x :: B)) w w3 := (Frm.of_below B2.out (Nat.le_refl _)).trans (hF3.mono fun q _ hq => hsub q hq)
  have KT : ∀ j v, (kcs x.key)[j]? = some v → w3.cell? ((⟨g, 0, none⟩ : Addr).add j) = some v := fun j v hj => by
    rw [Addr.add_mid, Nat.zero_add, cell_of_row _ _ j _ _ _ n3]
    simpa using hj
  obtain ⟨c0, c1, c2, f0, f1, f2⟩ := hC3.row.cells
  have C3 := Lib.hid hC3
  have M3 := Lib.hid m3
  have F3 := Lib.hid f3
  have MNE := Lib.hid mne
  clear hC3 hF3 mne nm hsub m3 n3 f3 f0 f1 f2 c0 c1
  go_upto_region 5 with fail
  refine wp_region_quiet_tail 5 (by kernel_rfl) (by kernel_rfl) ?_
  simp only [List.take_succ_cons, List.take_zero, List.drop_succ_cons, List.drop_zero]
  repeat (go_big_quiet_step (fail))
  refine wpQuiet_loadG (by kernel_rfl) 32 (.tmp 3) rfl ⟨g, 0, none⟩ rfl (kcs x.key) _ (fun w' hC => by obtain ⟨nl, rfl⟩ := hC; exact KT) Try.underlying32 rfl (tkSize x.key) ?_
  simp only [Act.put, List.setIfInBounds_toArray, List.set_cons_zero, List.set_cons_succ, List.getElem_toArray, List.getElem_cons_zero, List.getElem_cons_succ]
  refine wpQuiet_nil ?_
  intro _ hw'
  obtain ⟨nq, hw''⟩ := hw'
  subst hw''
  obtain ⟨w4, hw4⟩ : ∃ y, y = w3.drewN nq := ⟨_, rfl⟩
  rw [← hw4]
  have b4 : Below w3.heap.size w3 w4 := by rw [hw4]; exact below_drewN (Below.refl _ _) nq
  have C4 := Lib.hid (C3.out.keep (w' := w4) (b4.block b C3.out.row.lt) (fun x hx => b4.block _ (C3.out.chain.lt x hx)))
  have M4 := Lib.hid (M3.out.keep (w' := w4) (fun m' hm' => by cases hm'; exact b4.block m M3.out.lt))
  have F4 := Lib.hid (show Frm (own b (some m) (A ++ x :: B)) w w4 by rw [hw4]; exact F3.out.drewN nq)
  clear hw4 b4 KT c2
  go_wp2_with (with_reducible show wpList _ _ _ _ _ _; refine wpList_delP rfl (.tmp 26) (.tmp 27) rfl qu_keyP (by with_unfolding_all rfl) M4.out (x := x.key) (by with_unfolding_all rfl) WF.out ?_; rintro w5 hM5 hT5)
  go_ret
  have hsome : (adOf (A ++ x :: B) x.key).isSome = true := by rw [adOf_mid H1.out.keys]; rfl
  rw [hsome, if_pos rfl] at hM5
  refine ⟨rfl, ⟨?_, ?_, ?_, ?_, ?_⟩, F4.out.turned hT5 (.inl (.inr (.inl rfl)))⟩
  · refine C4.out.keep (turned_block hT5 (fun e => MNE.out.1 e.symm) C4.out.row.lt) fun y hy => turned_block hT5 (MNE.out.2 y ?_) (C4.out.chain.lt y hy)
    rcases List.mem_append.1 hy with hy | hy <;> simp [hy]
  · have hl : (A ++ B).length = (A ++ x :: B).length - 1 := by simp
    rw [hl]
    exact hM5.ext fun y => by rw [adOf_rest H1.out.keys]
  · exact fun y hy => H1.out.wf y (by rcases List.mem_append.1 hy with hy | hy <;> simp [hy])
  · have hk := H1.out.keys
    simp only [List.map_append, List.map_cons, List.nodup_append, List.nodup_cons] at hk ⊢
    exact ⟨hk.1, hk.2.1.2, fun p hp q hq => hk.2.2 p hp q (by simp at hq ⊢; right; exact hq)⟩
  · have := H1.out.few; simp at this ⊢; omega
end Go.Proofs.Ytkmhbbcppjckiaa.Qu
