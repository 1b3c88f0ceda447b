/- Slices of bytes that come in; from a law's walk to its row. -/
import Derived.Test.YtdjpeebekpjiiaaJ0A
import Derived.Test.YtdjpeebekpjiiaaRows
import Derived.ProofKit
import Derived.OpenShut
import Derived.Carry
import Derived.Laws.BytesArg
import Derived.Deep.QuietTactic
import Derived.BigQuiet
import Derived.RegionTactic
import Derived.ChangeAlike
import Derived.BigRegion
import Derived.Laws.LoneSync
import Derived.Deep.MidRow
import Derived.Maps.OwnOps
namespace Go.Proofs.Ytdjpeebekpjiiaa.Dk
open Go Go.RowKit Go.ChangeShapes Go.WideShapes Go.ChangeAt
set_option linter.unusedVariables false
set_option linter.unusedSimpArgs false

def str (ys : List UInt8) : ByteArray := ⟨ys.toArray⟩
theorem str_of_nums (ys : List UInt8) : strOfNums (ys.map fun b => (b.toNat : Int)) = str ys := by
  simp [strOfNums, str, Function.comp_def]
theorem run_convert_sl {w : World} {ao : Option Addr} {n c : Nat} {ys : List UInt8} (hn : ys.length = n) (hno : ao = none → ys = []) (hs : ∀ a, ao = some a → ∀ j u, (bvs ys)[j]? = some u → w.cell? (a.add j) = some u) :
    (convert 37 9 (.slice ao n c)).run Try.prog w = .ok (.string (str ys)) w := by
  cases ao with
  | none =>
    obtain rfl := hno rfl
    subst hn
    exact run_convert_bytes_nil w 37 5 Try.underlying37 Try.underlying5 _ _ 9 Try.underlying9
  | some a =>
    have hl : (loadCells a n).run Try.prog w = .ok ((ys.map fun b => (b.toNat : Int)).map (Value.int .u8)).toArray w := by
      have := run_loadCells_list (P := Try.prog) w a (bvs ys) (hs a rfl)
      rw [bvs_length, hn] at this
      rw [this]
      simp [bvs, bv, Function.comp_def]
    rw [run_convert_bytes_string w 37 9 5 _ n c Try.underlying37 Try.underlying5 Try.underlying9, run_bytesToString w _ n c _ hl, foldl_push_bytes, ← str_of_nums]
    simp [strOfNums, ByteArray.empty, ByteArray.emptyWithCapacity]
    rfl

/-- A slice of these bytes. -/
def Sl (w : World) (v : Value) (ys : List UInt8) : Prop :=
  ∃ ao c, v = .slice ao ys.length c ∧ (ao = none → ys = []) ∧ ∀ a, ao = some a → ∀ j u, (bvs ys)[j]? = some u → w.cell? (a.add j) = some u


theorem Try.ownKnob : ownKnob Try.prog.godebug = none := by kernel_rfl
theorem Try.laid : laidOutB Try.prog = true := by kernel_rfl

theorem trodAll_below {H : Type} {enc : TypeId × Value → H} {W W' : World} (hb : Below W.heap.size W W') : ∀ (ts : List TypeId) (vs : List Value) (ds : List (DataW H)) (p : List MemPlace), (∀ t ∈ ts, Try.prog.readableRec t = true ∧ t < Try.prog.types.size) →
    DataW.TrodAll enc Try.prog W 0 (fun _ => true) true ts vs ds p → (∀ x ∈ p, x.block < W.heap.size) → DataW.TrodAll enc Try.prog W' 0 (fun b => decide (b < W.heap.size)) true ts vs ds p := by
  intro ts
  induction ts with
  | nil =>
    intro vs ds p _ h _
    obtain ⟨rfl, rfl, rfl⟩ := trodAll_nil h
    exact trodAll_mk0
  | cons t ts ih =>
    intro vs ds p ht h hp
    obtain ⟨v0, vs0, d0, ds0, p0, q0, rfl, rfl, rfl, h0, r0⟩ := trodAll_cons h
    exact trodAll_cons_mk (Below.trod Try.laid (ht t (by simp)).1 (ht t (by simp)).2 h0 hb (fun x hx => hp x (by simp [hx]))) (ih _ _ _ (fun t' h' => ht t' (by simp [h'])) r0 (fun x hx => hp x (by simp [hx])))

/-- The law has returned true, and of what was there nothing has turned. -/
theorem law_done {H : Type} {enc : TypeId × Value → H} {f : Func} {s : ChangeSpec} {W W' : World} {args : Array Value} {ds : List (DataW H)} {p : List MemPlace} (hs : s.vars = []) (hrt : f.resultTypes = #[4])
    (hts : ∀ t ∈ f.params.toList, Try.prog.readableRec t = true ∧ t < Try.prog.types.size) (hfn : s.fn H (ds ++ []) = { results := [.lit (.bool true)], args := ds })
    (hA : DataW.TrodAll enc Try.prog W 0 (fun _ => true) true f.params.toList args.toList ds p) (hW : DataW.Whole enc Try.prog f.params.toList s.vars false W args.toList ds [] p) (hb : Below W.heap.size W W') :
    s.post enc Try.prog f false true false false W args (.bool true) W' := by
  refine ⟨ds, [], p, [], p, [], hW, ?_, ?_, ?_, hb.frame _, fun h => by cases h⟩
  · rw [hfn, hrt]
    exact trodAll_cons_mk (shut_bool Try.underlying4 _) trodAll_mk0
  · rw [hfn]
    exact trodAll_below hb _ _ _ _ hts hA (fun x hx => hW.lt x hx)
  · rw [hfn, hs]
    exact rfl

/-- Bytes out of numbers. -/
def ofInts (zs : List Int) : List UInt8 := zs.map fun z => UInt8.ofNat z.toNat
theorem ofInts_get (zs : List Int) (hz : ∀ z ∈ zs, 0 ≤ z ∧ z ≤ 255) (j : Nat) (u : Value) (h : (bvs (ofInts zs))[j]? = some u) : j < zs.length ∧ u = .int .u8 (zs.getD j 0) := by
  have hj : j < zs.length := by
    have := (List.getElem?_eq_some_iff.1 h).1
    simpa [bvs, ofInts] using this
  refine ⟨hj, ?_⟩
  have hb := hz zs[j] (List.getElem_mem hj)
  have e : (bvs (ofInts zs))[j]? = some (bv (UInt8.ofNat zs[j].toNat)) := by simp [bvs, ofInts, hj]
  rw [e] at h
  injection h with h
  rw [← h]
  simp only [bv, List.getD, List.getElem?_eq_getElem hj, Option.getD_some]
  congr 1
  rw [UInt8.toNat_ofNat']
  omega

set_option maxRecDepth 100000 in
/-- A slice of bytes that came in. -/
theorem open_bytes {H : Type} {enc : TypeId × Value → H} {W : World} {base : Nat} {v : Value} {d : DataW H} {p : List MemPlace} (hv : Value.okWide Try.prog W .any base 37 v) (h : DataW.Trod enc Try.prog W 0 (fun _ => true) true 37 v d p) :
    ∃ ao c xs, v = .slice ao xs.length c ∧ Sl W (.slice ao xs.length c) xs ∧ xs.length ≤ c ∧ c ≤ 9223372036854775807 := by
  obtain ⟨a0, len, cap, rfl⟩ := okWide_slice Try.underlying37 hv
  obtain ⟨fuel, hf⟩ := h
  rcases open_ints Try.underlying37 Try.underlying5 (by kernel_rfl) hf with ⟨hcs, hx⟩ | ⟨a, len', cap', zs, hcs, _, hl, hm, hz, hx, hcell, hwz⟩
  · simp only [Value.cells] at hcs
    injection hcs with hcs
    rw [hcs]
    exact ⟨none, 0, [], rfl, ⟨none, 0, rfl, (fun _ => rfl), (fun a ha => by cases ha)⟩, by simp, by omega⟩
  · simp only [Value.cells] at hcs
    injection hcs with hcs
    rw [hcs]
    simp only [if_true] at hz
    have hb : ∀ z ∈ zs.take len', 0 ≤ z ∧ z ≤ 255 := fun z hz' => bounds_u8 (hwz z (List.mem_of_mem_take hz'))
    have hlen : (ofInts (zs.take len')).length = len' := by simp [ofInts]; omega
    refine ⟨some a, cap', ofInts (zs.take len'), (by rw [hlen]), ⟨some a, cap', rfl, (fun h => by cases h), ?_⟩, (by omega), (by unfold maxLen at hm; omega)⟩
    intro a' ha j u hu
    cases ha
    obtain ⟨hj, rfl⟩ := ofInts_get _ hb j u hu
    have hj' : j < len' := by have : (zs.take len').length ≤ len' := List.length_take_le _ _; omega
    rw [hcell j (by omega)]
    simp [List.getD, hj']

theorem Sl.below {w w' : World} {v : Value} {xs : List UInt8} (h : Sl w v xs) (hb : Below w.heap.size w w') : Sl w' v xs := by
  obtain ⟨ao, c, rfl, hno, hs⟩ := h
  refine ⟨ao, c, rfl, hno, fun a ha j u hu => ?_⟩
  have := hs a ha j u hu
  rw [hb.cell (World.block_lt_of_cell? w _ this)]
  exact this
/-- The first ones of a slice. -/
theorem Sl.convert {w : World} {ao : Option Addr} {n c : Nat} {ys : List UInt8} (h : Sl w (.slice ao n c) ys) : (Go.convert 37 9 (.slice ao n c)).run Try.prog w = .ok (.string (str ys)) w ∧ ys.length = n := by
  obtain ⟨ao', c', e, hno, hs⟩ := h
  injection e with e1 e2 e3
  subst e1 e2 e3
  exact ⟨run_convert_sl rfl hno hs, rfl⟩
theorem Sl.front {w : World} {ao : Option Addr} {n c k : Nat} {ys : List UInt8} (h : Sl w (.slice ao n c) ys) (hk : k ≤ n) (c' : Nat) : Sl w (.slice ao k c') (ys.take k) := by
  obtain ⟨ao', c'', e, hno, hs⟩ := h
  injection e with e1 e2 e3
  subst e1 e2 e3
  refine ⟨ao, c', by simp [Nat.min_eq_left hk], fun e => by rw [hno e]; simp, fun a ha j u hu => ?_⟩
  refine hs a ha j u ?_
  simp only [bvs, List.map_take] at hu ⊢
  rw [List.getElem?_take] at hu
  split at hu
  · exact hu
  · cases hu
end Go.Proofs.Ytdjpeebekpjiiaa.Dk
/- What the small calls of a disk leave: Sectors, Down, Fuse, has, cut, spend, the counts. -/
namespace Go.Proofs.Ytdjpeebekpjiiaa.Dk
open Go Go.RowKit
set_option linter.unusedVariables false
set_option linter.unusedSimpArgs false

variable {w : World} {d g m n : Nat} {x : DS}
theorem sectors_any (h : DiskAt Try.prog w d g m n x) : Calls Try.prog 55 #[.pointer (some ⟨d, 0, none⟩)] w fun e w' => e = .returned (.int .i64 (x.s.length : Int)) ∧ w = w' := by
  have c2 := h.c2
  go_enter Try.func55, Try.ntmps55
  go_wp2
  go_ret
  exact ⟨rfl, rfl⟩
theorem fuse_any (h : DiskAt Try.prog w d g m n x) (z : Int) (hz : wfi z) : Calls Try.prog 26 #[.pointer (some ⟨d, 0, none⟩), .int .i64 z] w fun e w' => e = .returned (.tuple #[]) ∧ DiskAt Try.prog w' d g m n { x with fuse := z } ∧ Frm (own3 d g m) w w' := by
  have c4 := h.c4
  have f4 := h.free 4
  have H := Lib.hid (h.setFuse hz)
  go_enter Try.func26, Try.ntmps26
  go_wp2
  go_end0
  exact ⟨rfl, H.out, (Frm.refl _ _).setCell (.inl (.inl rfl)) _⟩
theorem cut_any (h : DiskAt Try.prog w d g m n x) : Calls Try.prog 46 #[.pointer (some ⟨d, 0, none⟩)] w fun e w' => e = .returned (.tuple #[]) ∧ DiskAt Try.prog w' d g m n { x with fuse := -1, down := true } ∧ Frm (own3 d g m) w w' := by
  have c4 := h.c4
  have f4 := h.free 4
  have c5 := h.c5
  have f5 := h.free 5
  have H := Lib.hid h
  clear h
  go_enter Try.func46, Try.ntmps46
  go_wp2
  go_end0
  exact ⟨rfl, (H.out.setDown true).setFuse (show wfi (-1) from (by unfold wfi; decide)), ((Frm.refl _ _).setCell (.inl (.inl rfl)) _).setCell (.inl (.inl rfl)) _⟩
theorem has_any (h : DiskAt Try.prog w d g m n x) (i : Int) : Calls Try.prog 47 #[.pointer (some ⟨d, 0, none⟩), .int .i64 i] w fun e w' => e = .returned (.bool (x.has i)) ∧ w = w' := by
  have c2 := h.c2
  unfold DS.has
  by_cases h0 : 0 ≤ i
  · by_cases h1 : i < (x.s.length : Int)
    · go_enter Try.func47, Try.ntmps47
      go_wp2
      go_ret
      exact ⟨by simp [h0, h1], rfl⟩
    · go_enter Try.func47, Try.ntmps47
      go_wp2
      go_ret
      exact ⟨by simp [h0, h1], rfl⟩
  · go_enter Try.func47, Try.ntmps47
    go_wp2
    go_ret
    exact ⟨by simp; omega, rfl⟩
theorem spend_any (h : DiskAt Try.prog w d g m n x) : Calls Try.prog 101 #[.pointer (some ⟨d, 0, none⟩)] w fun e w' => e = .returned (.int .i64 (if x.fuse = 0 then 50 else 0)) ∧ DiskAt Try.prog w' d g m n x.spend ∧ Frm (own3 d g m) w w' := by
  have c4 := h.c4
  have f4 := h.free 4
  have H := Lib.hid h
  unfold DS.spend
  by_cases h0 : x.fuse = 0
  · have C := Lib.hid (cut_any h)
    clear h
    rw [if_pos h0, if_pos h0]
    go_enter Try.func101, Try.ntmps101
    go_wp2_with (go_at_call 46; refine C.out.mono ?_; rintro e w' ⟨rfl, hd, hf⟩)
    go_ret
    exact ⟨rfl, hd, hf⟩
  · clear h
    rw [if_neg h0, if_neg h0]
    by_cases h1 : 0 < x.fuse
    · rw [if_pos h1]
      have hw := H.out.wfu
      have hb := bounds_i64 hw
      have hz : wfi (x.fuse - 1) := WalkArith.wf_i64 (by omega)
      go_enter Try.func101, Try.ntmps101
      go_wp2
      go_ret
      refine ⟨rfl, ?_, (Frm.refl _ _).setCell (.inl (.inl rfl)) _⟩
      exact H.out.setFuse hz
    · rw [if_neg h1]
      go_enter Try.func101, Try.ntmps101
      go_wp2
      go_ret
      exact ⟨rfl, H.out, Frm.refl _ _⟩
theorem Try.add_runs {p : Addr} {z : Int} {w : World} (hc : w.cell? p = some (.int .i64 z)) (hz : w.frozen? p = false) :
    (callFunc 124 #[.pointer (some p), .int .i64 1]).run Try.prog w = .ok (.value (.int .i64 (wrap64 (z + 1)))) (w.setCell p (.int .i64 (wrap64 (z + 1)))) :=
  run_call_add Try.func124 (by kernel_rfl) (by kernel_rfl) (by kernel_rfl) .i64 (by kernel_rfl) hc hz (by simp [go_sem, wrap64, IntKind.wrap_i64])
theorem Try.load_runs {p : Addr} {z : Int} {w : World} (hc : w.cell? p = some (.int .i64 z)) :
    (callFunc 68 #[.pointer (some p)]).run Try.prog w = .ok (.value (.int .i64 z)) w :=
  run_call_load Try.func68 (by kernel_rfl) (by kernel_rfl) (by kernel_rfl) .i64 (by kernel_rfl) hc
theorem wfi_wrap (z : Int) : wfi (wrap64 z) := RowKit.wrap64_wf _
theorem countWrite_any (h : DiskAt Try.prog w d g m n x) : Calls Try.prog 117 #[.pointer (some ⟨d, 0, none⟩)] w fun e w' => e = .returned (.tuple #[]) ∧ DiskAt Try.prog w' d g m n { x with wr := wrap64 (x.wr + 1) } ∧ Frm (own3 d g m) w w' := by
  have c0 := h.c0
  have f0 := h.free 0
  have ha := Try.add_runs c0 f0
  have H := Lib.hid (h.setWr (wfi_wrap (x.wr + 1)))
  clear h
  generalize wrap64 (x.wr + 1) = z at *
  go_enter Try.func117, Try.ntmps117
  go_wp2
  go_end0
  exact ⟨rfl, H.out, (Frm.refl _ _).setCell (.inl (.inl rfl)) _⟩
theorem countFlush_any (h : DiskAt Try.prog w d g m n x) : Calls Try.prog 102 #[.pointer (some ⟨d, 0, none⟩)] w fun e w' => e = .returned (.tuple #[]) ∧ DiskAt Try.prog w' d g m n { x with fl := wrap64 (x.fl + 1) } ∧ Frm (own3 d g m) w w' := by
  have c1 := h.c1
  have f1 := h.free 1
  have ha := Try.add_runs c1 f1
  have H := Lib.hid (h.setFl (wfi_wrap (x.fl + 1)))
  clear h
  generalize wrap64 (x.fl + 1) = z at *
  go_enter Try.func102, Try.ntmps102
  go_wp2
  go_end0
  exact ⟨rfl, H.out, (Frm.refl _ _).setCell (.inl (.inl rfl)) _⟩
theorem writes_any (h : DiskAt Try.prog w d g m n x) : Calls Try.prog 19 #[.pointer (some ⟨d, 0, none⟩)] w fun e w' => e = .returned (.int .i64 x.wr) ∧ w = w' := by
  have ha := Try.load_runs h.c0
  clear h
  go_enter Try.func19, Try.ntmps19
  go_wp2
  go_ret
  exact ⟨rfl, rfl⟩
theorem flushes_any (h : DiskAt Try.prog w d g m n x) : Calls Try.prog 20 #[.pointer (some ⟨d, 0, none⟩)] w fun e w' => e = .returned (.int .i64 x.fl) ∧ w = w' := by
  have ha := Try.load_runs h.c1
  clear h
  go_enter Try.func20, Try.ntmps20
  go_wp2
  go_ret
  exact ⟨rfl, rfl⟩
theorem DS.spend_ok {x : DS} (h : ¬ x.fuse = 0) : x.spend.down = x.down ∧ x.spend.S = x.S ∧ x.spend.s = x.s ∧ x.spend.wr = x.wr ∧ x.spend.fl = x.fl := by
  unfold DS.spend
  rw [if_neg h]
  split <;> exact ⟨rfl, rfl, rfl, rfl, rfl⟩
end Go.Proofs.Ytdjpeebekpjiiaa.Dk
/- A region that only reads and calls, walked in one order in any class of worlds. -/
namespace Go.Proofs.Ytdjpeebekpjiiaa
open Go
section
variable {P : Program} {ops : Array Oper} {C : World → Prop} {Q : Act → Prop}

theorem wp_region_quiet_in {id : Nat} {Q : Exit → Act → World → Prop} {a : Act} {w : World} {l : List Oper} (C : World → Prop) (hm : P.follows .mixedOrders = true) (hB : Region.lexB .any l.toArray = true) (hC : C w.drew)
    (h : wpQuiet P l.toArray C (fun a' => ∀ w', C w' → Q .normal a' w') l a) : (Code.region id l.toArray true).wp P Q a w :=
  wp_region_quiet (C := C) hm hB hC (by simpa using h)
theorem wpQuiet_run {o : Oper} {rest : List Oper} {a : Act} {v : Value} (hg : o.guard = none) (hr : ∀ w, C w → (execOp a.eval o).run P w = .ok (.value v) w) (h : wpQuiet P ops C Q rest (a.put o.dst v)) : wpQuiet P ops C Q (o :: rest) a := by
  have hw : Region.wanted o (yielded ops a.tmps) = true := by unfold Region.wanted; rw [hg]
  unfold wpQuiet
  rw [if_pos hw]
  exact ⟨v, fun w hC => by unfold Oper.quietAt; rw [hr w hC]; exact ⟨rfl, rfl⟩, h⟩
theorem wpQuiet_load_mid {o : Oper} {rest : List Oper} {a : Act} (hg : o.guard = none) (ty : TypeId) (x : Operand) (ho : o.op = .load ty x) (b off : Nat) (hx : a.eval x = .pointer (some ⟨b, off, none⟩)) (cs : List Value) (d : TypeDesc)
    (hC : ∀ w, C w → w.rangeAt b off cs) (hu : P.underlying ty = some d) (hd : d.isRow = true) (hi : (P.info? ty).map (·.size) = some cs.length) (h : wpQuiet P ops C Q rest (a.put o.dst (.agg cs.toArray))) : wpQuiet P ops C Q (o :: rest) a :=
  wpQuiet_run hg (fun w hw => by
    unfold execOp
    simp only [ho, hx, Instr.loadAt, Instr.sureAddr, Sem.run_bind, Sem.run_pure, Result.andThen_ok, run_loadVar_mid w b off ty cs d (hC w hw) hu hd hi]) h
theorem run_call_go {o : Oper} {a : Act} {f : FuncId} {fn : Func} {xs : Array Operand} {ats : Array TypeId} {args : Array Value} {w : World}
    (hop : o.op = .call { callee := .value (.func f), args := xs, argTypes := ats }) (hf : P.funcs[f]? = some fn) (hname : (fn.name == "runtime.NumGoroutine") = false) (hb : fn.body.isNone = false) (ha : xs.map a.eval = args) :
    (execOp a.eval o).run P w = .ok (.enter f args) w := by
  have ef : a.eval (.func f) = .func (.func f) #[] #[] := rfl
  have e1 : execOp a.eval o = callFunc f (xs.map a.eval) := by
    unfold execOp
    simp [hop, resolve, Deferred.ofValue, invoke, ef]
  rw [e1, ha]
  unfold callFunc
  have hname' : ¬ fn.name = "runtime.NumGoroutine" := by simpa using hname
  have hb' : ¬ fn.body = none := fun h => by rw [h] at hb; cases hb
  simp [Sem.run_bind, hf, hname', hb']
theorem wpQuiet_call {o : Oper} {rest : List Oper} {a : Act} {f : FuncId} {fn : Func} {xs : Array Operand} {ats : Array TypeId} (args : Array Value) (v : Value) (hg : o.guard = none)
    (hop : o.op = .call { callee := .value (.func f), args := xs, argTypes := ats }) (hf : P.funcs[f]? = some fn) (hname : (fn.name == "runtime.NumGoroutine") = false) (hb : fn.body.isNone = false) (ha : xs.map a.eval = args)
    (hc : ∀ w, C w → Calls P f args w fun e w' => e = .returned v ∧ C w') (h : wpQuiet P ops C Q rest (a.put o.dst v)) : wpQuiet P ops C Q (o :: rest) a := by
  have hw : Region.wanted o (yielded ops a.tmps) = true := by unfold Region.wanted; rw [hg]
  unfold wpQuiet
  rw [if_pos hw]
  exact ⟨v, fun w hC => by unfold Oper.quietAt; rw [run_call_go hop hf hname hb ha]; exact ⟨rfl, hc w hC⟩, h⟩
theorem wpOp_enter {Q : Exit → Act → World → Prop} {i : Nat} {K : Act → World → Prop} {a : Act} {w : World} {o : Oper} {f : FuncId} {fn : Func} {xs : Array Operand} {ats : Array TypeId} (args : Array Value) (hi : ops[i]? = some o) (hg : o.guard = none)
    (hop : o.op = .call { callee := .value (.func f), args := xs, argTypes := ats }) (hf : P.funcs[f]? = some fn) (hname : (fn.name == "runtime.NumGoroutine") = false) (hb : fn.body.isNone = false) (ha : xs.map a.eval = args)
    (hc : Calls P f args w fun e w' => ∃ v, e = .returned v ∧ K (a.put o.dst v) w') : wpOp P ops Q i K a w := by
  unfold wpOp
  simp only [hi]
  have hw : Region.wanted o (yielded ops a.tmps) = true := by unfold Region.wanted; rw [hg]
  rw [hw, if_pos rfl]
  refine .inl ?_
  unfold Oper.wp
  rw [run_call_go hop hf hname hb ha]
  exact hc.mono fun e w' h => by obtain ⟨v, rfl, h⟩ := h; exact h
end
end Go.Proofs.Ytdjpeebekpjiiaa
/- What a disk's calls Sure and Read leave. -/
namespace Go.Proofs.Ytdjpeebekpjiiaa.Dk
open Go Go.RowKit
set_option linter.unusedVariables false
set_option linter.unusedSimpArgs false

/-- A whole array stored at the head of a block of its size. -/
theorem wpList_store_whole {P : Program} {ops : Array Oper} {rest : List Oper} {op : Oper} {a : Act} {w : World} {Q : Exit → Act → World → Prop} (hgd : op.guard = none) (ty : TypeId) (x y : Operand) (ho : op.op = .store ty x y)
    (g : Nat) (t : TypeId) (old cells : Array Value) (hx : a.eval x = .pointer (some ⟨g, 0, none⟩)) (hy : a.eval y = .agg cells) (hg : w.heap[g]? = some (.cells old t (0, 0)))
    (hi : (P.info? ty).map (·.size) = some cells.size) (hs : old.size = cells.size) (h1 : cells.all (·.oneCell') = true)
    (h : wpList P ops Q rest (a.put op.dst undef) (w.setRow g cells)) : wpList P ops Q (op :: rest) a w :=
  wpList_plain hgd fun _ hK => by
    unfold Oper.wp execOp
    simp only [ho, hx, hy, Instr.storeAt, Instr.sureAddr, Sem.run_bind, Sem.run_pure, Result.andThen_ok, run_storeVar_row w g t ty old cells hg hi hs h1]
    exact hK _ _ h
theorem alloc_setRow (w : World) (old cells : Array Value) (t : TypeId) : (w.alloc (.cells old t)).setRow w.heap.size cells = w.alloc (.cells cells t) := by
  unfold World.setRow World.alloc
  congr 1
  apply Array.ext_getElem?
  intro i
  rw [Array.getElem?_modify]
  simp only [Array.getElem?_push]
  by_cases hi : i = w.heap.size
  · subst hi; simp
  · rw [if_neg (fun e => hi e.symm), if_neg hi, if_neg hi]
/-- .. of a block that was laid last. -/
theorem wpList_store_new {P : Program} {ops : Array Oper} {rest : List Oper} {op : Oper} {a : Act} {w : World} {Q : Exit → Act → World → Prop} (hgd : op.guard = none) (ty : TypeId) (x y : Operand) (ho : op.op = .store ty x y)
    (t : TypeId) (old cells : Array Value) (hx : a.eval x = .pointer (some ⟨w.heap.size, 0, none⟩)) (hy : a.eval y = .agg cells)
    (hi : (P.info? ty).map (·.size) = some cells.size) (hs : old.size = cells.size) (h1 : cells.all (·.oneCell') = true)
    (h : wpList P ops Q rest (a.put op.dst undef) (w.alloc (.cells cells t))) : wpList P ops Q (op :: rest) a (w.alloc (.cells old t)) :=
  wpList_store_whole hgd ty x y ho w.heap.size t old cells hx hy (heap_alloc_new w _) hi hs h1 (by rw [alloc_setRow]; exact h)
theorem Try.sec128 : (Try.prog.info? 112).map (·.size) = some 128 := by kernel_rfl
theorem Try.zeroSec (w : World) : (zeroValue 112).run Try.prog w = .ok (.agg (bvs zeros).toArray) w := by kernel_rfl
theorem Try.secSize {l : List UInt8} (hl : l.length = 128) : (Try.prog.info? 112).map (·.size) = some (bvs l).toArray.size := by rw [List.size_toArray, bvs_length, hl]; exact Try.sec128
theorem Try.zeroSize {l : List UInt8} (hl : l.length = 128) : Try.zeroCells112.size = (bvs l).toArray.size := by
  have e : (bvs l).toArray.size = 128 := by rw [List.size_toArray, bvs_length, hl]
  exact Eq.trans (by kernel_rfl : Try.zeroCells112.size = 128) e.symm
theorem all_bvs (l : List UInt8) : (bvs l).toArray.all (·.oneCell') = true := all_oneCell_toArray (bvs_one l)
/-- Bytes that were handed out: a block of their own. -/
def Sec (w0 w : World) (v : Value) (l : List UInt8) : Prop := ∃ g, v = .slice (some ⟨g, 0, none⟩) 128 128 ∧ w0.heap.size ≤ g ∧ w.heap[g]? = some (.cells (bvs l).toArray 112 (0, 0)) ∧ l.length = 128
/-- What Sure and Read answer. -/
def Ans (w0 w : World) (v : Value) (y : List UInt8 × Int) : Prop := if y.2 = 0 then Sec w0 w v y.1 else v = .slice none 0 0

variable {w : World} {d g m n : Nat} {x : DS}
set_option maxRecDepth 100000 in
theorem sure_any (h : DiskAt Try.prog w d g m n x) (i : Int) : Calls Try.prog 80 #[.pointer (some ⟨d, 0, none⟩), .int .i64 i] w fun e w' => ∃ v, e = .returned (.tuple #[v, .int .i64 (x.sure i).2]) ∧ Ans w w' v (x.sure i) ∧ Below w.heap.size w w' := by
  have c2 := h.c2
  have H := Lib.hid h
  have HA := Lib.hid (has_any h i)
  unfold DS.sure
  by_cases hh : x.has i = false
  · rw [if_pos hh]
    rw [hh] at HA
    clear h
    go_enter Try.func80, Try.ntmps80
    go_wp2_with (go_at_call 47; refine HA.out.mono ?_; rintro e w' ⟨rfl, rfl⟩)
    go_ret2
    exact ⟨_, rfl, rfl, Below.refl _ _⟩
  · rw [if_neg hh]
    have ht : x.has i = true := by simpa using hh
    rw [ht] at HA
    simp [DS.has] at ht
    obtain ⟨k, rfl⟩ : ∃ k : Nat, i = (k : Int) := ⟨i.toNat, by omega⟩
    have hk : k < x.s.length := by omega
    have hsec := h.sector (List.getElem?_eq_getElem hk)
    have hl := h.len _ (List.getElem_mem hk)
    have hki : (k : Int) < (x.s.length : Int) := by omega
    have e : x.s.getD ((k : Int)).toNat [] = x.s[k] := by simp [List.getD, hk]
    rw [e]
    generalize x.s[k] = l at *
    clear h e
    go_enter Try.func80, Try.ntmps80
    go_wp2_with (first | (go_at_call 47; refine HA.out.mono ?_; rintro e w' ⟨rfl, rfl⟩) | (refine wpList_load_mid rfl 112 (.tmp 16) rfl g (k * 128) rfl (bvs l) _ hsec Try.underlying112 rfl (by rw [bvs_length, hl]; exact Try.sec128) ?_) | (refine wpList_store_new rfl 112 (.tmp 6) (.tmp 17) rfl 112 Try.zeroCells112 (bvs l).toArray rfl rfl (Try.secSize hl) (Try.zeroSize hl) (all_bvs l) ?_))
    go_ret2
    exact ⟨_, rfl, ⟨_, rfl, Nat.le_refl _, heap_alloc_new w _, hl⟩, (Below.refl _ _).alloc (Nat.le_refl _) _⟩
theorem Ans.from {w0 w1 w2 : World} {v : Value} {y : List UInt8 × Int} (h : Ans w1 w2 v y) (hs : w0.heap.size ≤ w1.heap.size) : Ans w0 w2 v y := by
  unfold Ans at h ⊢
  split
  · rename_i h0
    rw [if_pos h0] at h
    obtain ⟨g, e, hg, r⟩ := h
    exact ⟨g, e, Nat.le_trans hs hg, r⟩
  · rename_i h0
    rw [if_neg h0] at h
    exact h
set_option maxRecDepth 100000 in
theorem read_any (h : DiskAt Try.prog w d g m n x) (i : Int) (hw : wfi i) : Calls Try.prog 60 #[.pointer (some ⟨d, 0, none⟩), .int .i64 i] w fun e w' => ∃ v, e = .returned (.tuple #[v, .int .i64 (x.read i).2]) ∧ Ans w w' v (x.read i) ∧ Below w.heap.size w w' := by
  have c5 := h.c5
  unfold DS.read
  by_cases hd : x.down = true
  · rw [if_pos hd]
    rw [hd] at c5
    clear h
    go_enter Try.func60, Try.ntmps60
    go_wp2_with fail
    go_ret2
    exact ⟨_, rfl, rfl, Below.refl _ _⟩
  · rw [if_neg hd]
    have c3 := h.c3
    have hd' : x.down = false := by simpa using hd
    rw [hd'] at c5
    have MP := h.map
    cases hS : x.S i with
    | some l =>
      have hl := MP.len Try.underlying3 Try.underlying59 (Try.zeroSec w) hw hS
      clear h
      go_enter Try.func60, Try.ntmps60
      go_wp2_with (first | (at_lookup; refine wpList_look_some w rfl _ _ 59 rfl Try.underlying3 Try.underlying59 (Try.zeroSec w) rfl MP rfl hw hS ?_) | (refine wpList_store_new rfl 112 (.tmp 6) (.tmp 19) rfl 112 Try.zeroCells112 (bvs l).toArray rfl rfl (Try.secSize hl) (Try.zeroSize hl) (all_bvs l) ?_))
      go_ret2
      exact ⟨_, rfl, ⟨_, rfl, Nat.le_refl _, heap_alloc_new w _, hl⟩, (Below.refl _ _).alloc (Nat.le_refl _) _⟩
    | none =>
      have HS := Lib.hid (sure_any (h.alloc (.cells (bvs zeros).toArray 112)) i)
      generalize x.sure i = y at HS
      obtain ⟨y1, y2⟩ := y
      clear h
      go_enter Try.func60, Try.ntmps60
      go_wp2_with (first | (at_lookup; refine wpList_look_none w rfl _ _ 59 rfl Try.underlying3 Try.underlying59 (Try.zeroSec w) rfl MP rfl hw hS ?_) | (refine wpList_store_new rfl 112 (.tmp 6) (.tmp 19) rfl 112 Try.zeroCells112 (bvs zeros).toArray rfl rfl (Try.secSize zeros_length) (Try.zeroSize zeros_length) (all_bvs zeros) ?_) | (go_at_call 80; refine HS.out.mono ?_; rintro e w' ⟨v, rfl, ha, hb⟩))
      go_ret2
      exact ⟨_, rfl, ha.from (by simp), ((Below.refl _ _).alloc (Nat.le_refl _) _).trans (hb.mono (by simp))⟩
end Go.Proofs.Ytdjpeebekpjiiaa.Dk
