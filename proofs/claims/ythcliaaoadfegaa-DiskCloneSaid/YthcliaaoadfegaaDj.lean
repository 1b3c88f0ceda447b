/- The laws' own fits. -/
import Derived.Test.YthcliaaoadfegaaDw
import Derived.Test.YthcliaaoadfegaaDi
namespace Go.Proofs.Ythcliaaoadfegaa.Dk
open Go Go.RowKit Go.ChangeShapes Go.WideShapes Go.ChangeAt Go.Deep
set_option linter.unusedVariables false
set_option linter.unusedSimpArgs false

section
variable {P : Program}
/-- A variable of many cells is read, wherever it lies. -/
theorem run_loadVar_all (w : World) (a : Addr) (ty : TypeId) (cs : List Value) (d : TypeDesc) (hc : ∀ j v, cs[j]? = some v → w.cell? (a.add j) = some v)
    (hu : P.underlying ty = some d) (hd : d.isRow = true) (hi : (P.info? ty).map (·.size) = some cs.length) :
    (loadVar ty a).run P w = .ok (.agg cs.toArray) w := by
  have hl : (loadCells a cs.length).run P w = .ok cs.toArray w := run_loadCells_list (P := P) w a cs hc
  cases hq : P.info? ty with
  | none => simp [hq] at hi
  | some i =>
    have hs : i.size = cs.length := by simpa [hq] using hi
    have hagg : (isAgg ty).run P w = .ok true w := by
      unfold isAgg
      rw [Sem.run_bind, run_underlying hu w]
      cases d <;> simp_all
    simp [loadVar, Sem.run_bind, hagg, sizeOf, typeInfo, hq, hs, hl]
theorem wpList_load_all {ops : Array Oper} {rest : List Oper} {op : Oper} {a : Act} {w : World} {Q : Exit → Act → World → Prop} (hgd : op.guard = none) (ty : TypeId) (x : Operand) (ho : op.op = .load ty x)
    (p : Addr) (hx : a.eval x = .pointer (some p)) (cs : List Value) (d : TypeDesc) (hc : ∀ j v, cs[j]? = some v → w.cell? (p.add j) = some v)
    (hu : P.underlying ty = some d) (hd : d.isRow = true) (hi : (P.info? ty).map (·.size) = some cs.length)
    (h : wpList P ops Q rest (a.put op.dst (.agg cs.toArray)) w) : wpList P ops Q (op :: rest) a w :=
  wpList_plain hgd fun _ hK => by
    unfold Oper.wp execOp
    simp only [ho, hx, Instr.loadAt, Instr.sureAddr, Sem.run_bind, Sem.run_pure, Result.andThen_ok, run_loadVar_all w p ty cs d hc hu hd hi]
    exact hK _ _ h
end
/-- Whether an operation is of a size that is tried. -/
def OpD.fits (p : OpD) : Bool := decide (p.data.length ≤ 300) && decide (p.keep.length ≤ 20) && (p.raw || decide (p.data.length ≤ 128))
def fitsB (L : List OpD) : Bool := decide (L.length ≤ 30) && L.all OpD.fits
theorem Try.opSize (p : OpD) : (Try.prog.info? 37).map (·.size) = some p.cells.length := by rw [p.cells_length]; kernel_rfl
theorem OpD.cells_one (p : OpD) : p.cells.toArray.all (·.oneCell') = true := all_oneCell_toArray (by
  intro v hv
  simp only [OpD.cells, List.mem_cons, List.not_mem_nil, or_false] at hv
  rcases hv with rfl | rfl | rfl | rfl | rfl | rfl | rfl <;> rfl)
def FitRel (w : World) (L : List OpD) (u : Value) (wr : World) : Prop := ∃ j : Nat, u = .int .i64 (j : Int) ∧ j ≤ L.length ∧ (∀ i, i < j → (L.getD i default).fits = true) ∧ Below w.heap.size w wr
theorem Ops.at {w : World} {ao : Option Addr} {c : Nat} {L : List OpD} (h : Ops w (.slice ao L.length c) L) {j : Nat} (hj : j < L.length) : ∃ a, ao = some a ∧ (∀ i v, (L.getD j default).cells[i]? = some v → w.cell? ((a.add (j * 7)).add i) = some v) ∧ (L.getD j default).Good w := by
  obtain ⟨ao', c', e, hno, hc, hg⟩ := h
  injection e with e1 e2 e3
  subst e1 e3
  have hL : L.getD j default = L[j] := by simp [List.getD, hj]
  cases ao with
  | none => rw [hno rfl] at hj; simp at hj
  | some a =>
    refine ⟨a, rfl, fun i v hv => ?_, by rw [hL]; exact hg _ (List.getElem_mem hj)⟩
    rw [add_add]
    exact hc a rfl j _ (by rw [hL]; exact List.getElem?_eq_getElem hj) i v hv
set_option maxRecDepth 100000 in
set_option maxHeartbeats 2000000 in
theorem fits_any (ao : Option Addr) (c : Nat) (L : List OpD) (w : World) (hO : Ops w (.slice ao L.length c) L) (hlen : L.length ≤ 9223372036854775807) :
    Calls Try.prog 6 #[.slice ao L.length c] w fun e w' => e = .returned (.bool (fitsB L)) ∧ Below w.heap.size w w' := by
  have HO := Lib.hid hO
  clear hO
  unfold fitsB
  by_cases h30 : 30 < L.length
  · have h30i : (30 : Int) < (L.length : Int) := by omega
    go_enter Try.func6, Try.ntmps6
    go_wp2_with fail
    go_ret
    exact ⟨by simp; omega, Below.refl _ _⟩
  · have h30i : ¬ (30 : Int) < (L.length : Int) := by omega
    have e30 : decide (L.length ≤ 30) = true := by simp; omega
    rw [e30, Bool.true_and]
    clear e30
    go_enter Try.func6, Try.ntmps6
    go_wp2_with fail
    go_loopw [10] (fun u wr => FitRel w L u wr) (fun u _ => L.length - (intOf u).toNat)
    case atStart => exact ⟨0, rfl, Nat.zero_le _, (fun i hi => by omega), Below.refl _ _⟩
    case round =>
      obtain ⟨wo, rfl⟩ : ∃ wo : World, wo = wr := ⟨_, rfl⟩
      obtain ⟨j, rfl, hj, hfit, hB⟩ := hrel
      have HF := Lib.hid hfit
      have HB := Lib.hid hB
      by_cases hjl : j < L.length
      · have hji : (j : Int) < (L.length : Int) := by omega
        obtain ⟨a, rfl, hcell, hg⟩ := (HO.out.below hB (Nat.le_refl _)).at hjl
        obtain ⟨p, hp⟩ : ∃ p, p = L.getD j default := ⟨_, rfl⟩
        rw [← hp] at hcell hg
        have HG := Lib.hid hg
        have HP := Lib.hid hp
        have hsz := Try.opSize p
        have HC := Lib.hid hcell
        clear hfit hB hg hp hcell
        obtain ⟨w2, hw2⟩ : ∃ w2, w2 = wo.alloc (.cells p.cells.toArray 37) := ⟨_, rfl⟩
        have hr2 := heap_alloc_new wo (.cells p.cells.toArray 37)
        rw [← hw2] at hr2
        have q4 : w2.cell? ⟨wo.heap.size, 4, none⟩ = some (.bool p.raw) := by rw [cell_of_row w2 wo.heap.size 4 _ _ _ hr2]; rfl
        have q5 : w2.cell? ⟨wo.heap.size, 5, none⟩ = some (.slice p.ao p.data.length p.cap) := by rw [cell_of_row w2 wo.heap.size 5 _ _ _ hr2]; rfl
        have q6 : w2.cell? ⟨wo.heap.size, 6, none⟩ = some (.slice p.ko p.keep.length p.kcap) := by rw [cell_of_row w2 wo.heap.size 6 _ _ _ hr2]; rfl
        have HW := Lib.hid hw2
        have HB2 := Lib.hid (show Below w.heap.size w w2 by rw [hw2]; exact HB.out.alloc HB.out.size _)
        have hone : p.cells.toArray.all (·.oneCell') = true := p.cells_one
        have hsz2 : (Try.prog.info? 37).map (·.size) = some p.cells.toArray.size := by rw [List.size_toArray]; exact hsz
        clear hw2 hr2
        have NO : p.fits = false → L.all OpD.fits = false := fun h => by
          rw [List.all_eq_false]
          refine ⟨p, ?_, by simp [h]⟩
          rw [HP.out, show L.getD j default = L[j] by simp [List.getD, hjl]]
          exact List.getElem_mem hjl
        have YES : p.fits = true → FitRel w L (.int .i64 ((j + 1 : Nat) : Int)) w2 := fun h => ⟨j + 1, rfl, by omega, (fun i hi => by
          by_cases e : i = j
          · subst e; rw [← HP.out]; exact h
          · exact HF.out i (by omega)), HB2.out⟩
        have HZ := Lib.hid hsz
        have HZ2 := Lib.hid hsz2
        have HO1 := Lib.hid hone
        clear hsz hsz2 hone
        have NO := Lib.hid NO
        have YES := Lib.hid YES
        by_cases a1 : 300 < p.data.length
        · have a1i : (300 : Int) < (p.data.length : Int) := by omega
          have hff : p.fits = false := by simp [OpD.fits]; omega
          have HH := Lib.hid hff
          clear hff
          go_wp2_with (first | (with_reducible show wpList _ _ _ _ _ _; refine wpList_load_all rfl 37 (.tmp 12) rfl (a.add (j * 7)) rfl p.cells _ HC.out Try.underlying37 rfl HZ.out ?_) | (with_reducible show wpList _ _ _ _ _ _; refine wpList_store_new rfl 37 (.tmp 4) (.tmp 13) rfl 37 #[.int .i64 0, .int .i64 0, .int .i64 0, .int .u8 0, .bool false, .slice none 0 0, .slice none 0 0] p.cells.toArray rfl rfl HZ2.out rfl HO1.out ?_; rw [← HW.out]))
          go_ret
          exact ⟨by rw [NO.out HH.out]; rfl, HB2.out⟩
        · have a1i : ¬ (300 : Int) < (p.data.length : Int) := by omega
          by_cases a2 : 20 < p.keep.length
          · have a2i : (20 : Int) < (p.keep.length : Int) := by omega
            have hff : p.fits = false := by simp [OpD.fits]; omega
            have HH := Lib.hid hff
            clear hff
            go_wp2_with (first | (with_reducible show wpList _ _ _ _ _ _; refine wpList_load_all rfl 37 (.tmp 12) rfl (a.add (j * 7)) rfl p.cells _ HC.out Try.underlying37 rfl HZ.out ?_) | (with_reducible show wpList _ _ _ _ _ _; refine wpList_store_new rfl 37 (.tmp 4) (.tmp 13) rfl 37 #[.int .i64 0, .int .i64 0, .int .i64 0, .int .u8 0, .bool false, .slice none 0 0, .slice none 0 0] p.cells.toArray rfl rfl HZ2.out rfl HO1.out ?_; rw [← HW.out]))
            go_ret
            exact ⟨by rw [NO.out HH.out]; rfl, HB2.out⟩
          · have a2i : ¬ (20 : Int) < (p.keep.length : Int) := by omega
            cases a3 : p.raw with
            | true =>
              have hff : p.fits = true := by simp [OpD.fits, a3]; omega
              rw [a3] at q4
              have RR := Lib.hid (YES.out hff)
              clear hff
              go_wp2_with (first | (with_reducible show wpList _ _ _ _ _ _; refine wpList_load_all rfl 37 (.tmp 12) rfl (a.add (j * 7)) rfl p.cells _ HC.out Try.underlying37 rfl HZ.out ?_) | (with_reducible show wpList _ _ _ _ _ _; refine wpList_store_new rfl 37 (.tmp 4) (.tmp 13) rfl 37 #[.int .i64 0, .int .i64 0, .int .i64 0, .int .u8 0, .bool false, .slice none 0 0, .slice none 0 0] p.cells.toArray rfl rfl HZ2.out rfl HO1.out ?_; rw [← HW.out]))
              exact ⟨RR.out, by simp [intOf]; omega⟩
            | false =>
              rw [a3] at q4
              by_cases a4 : 128 < p.data.length
              · have a4i : (128 : Int) < (p.data.length : Int) := by omega
                have hff : p.fits = false := by simp [OpD.fits, a3]; omega
                have HH := Lib.hid hff
                clear hff
                go_wp2_with (first | (with_reducible show wpList _ _ _ _ _ _; refine wpList_load_all rfl 37 (.tmp 12) rfl (a.add (j * 7)) rfl p.cells _ HC.out Try.underlying37 rfl HZ.out ?_) | (with_reducible show wpList _ _ _ _ _ _; refine wpList_store_new rfl 37 (.tmp 4) (.tmp 13) rfl 37 #[.int .i64 0, .int .i64 0, .int .i64 0, .int .u8 0, .bool false, .slice none 0 0, .slice none 0 0] p.cells.toArray rfl rfl HZ2.out rfl HO1.out ?_; rw [← HW.out]))
                go_ret
                exact ⟨by rw [NO.out HH.out]; rfl, HB2.out⟩
              · have a4i : ¬ (128 : Int) < (p.data.length : Int) := by omega
                have hff : p.fits = true := by simp [OpD.fits, a3]; omega
                have RR := Lib.hid (YES.out hff)
                clear hff
                go_wp2_with (first | (with_reducible show wpList _ _ _ _ _ _; refine wpList_load_all rfl 37 (.tmp 12) rfl (a.add (j * 7)) rfl p.cells _ HC.out Try.underlying37 rfl HZ.out ?_) | (with_reducible show wpList _ _ _ _ _ _; refine wpList_store_new rfl 37 (.tmp 4) (.tmp 13) rfl 37 #[.int .i64 0, .int .i64 0, .int .i64 0, .int .u8 0, .bool false, .slice none 0 0, .slice none 0 0] p.cells.toArray rfl rfl HZ2.out rfl HO1.out ?_; rw [← HW.out]))
                exact ⟨RR.out, by simp [intOf]; omega⟩
      · obtain rfl : j = L.length := by omega
        have hall : L.all OpD.fits = true := by
          rw [List.all_eq_true]
          intro p hp
          obtain ⟨i, hi, rfl⟩ := List.getElem_of_mem hp
          have := HF.out i hi
          simpa [List.getD, hi] using this
        have HL := Lib.hid hall
        clear hfit hB hall
        go_wp2_with fail
        go_ret
        exact ⟨by rw [HL.out]; rfl, HB.out⟩
end Go.Proofs.Ythcliaaoadfegaa.Dk
