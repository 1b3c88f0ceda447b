/- What a disk's calls Sure and Read leave. -/
import Derived.Test.YthcliaaoadfegaaDc
import Derived.Test.YthcliaaoadfegaaQc
import Derived.Deep.MidRow
import Derived.Maps.OwnOps
namespace Go.Proofs.Ythcliaaoadfegaa.Dk
open Go Go.RowKit
set_option linter.unusedVariables false
set_option linter.unusedSimpArgs false

/-- A whole array stored at the head of a block of its size. -/
theorem wpList_store_whole {P : Program} {ops : Array Oper} {rest : List Oper} {op : Oper} {a : Act} {w : World} {Q : Exit → Act → World → Prop} (hgd : op.guard = none) (ty : TypeId) (x y : Operand) (ho : op.op = .store ty x y)
    (g : Nat) (t : TypeId) (old cells : Array Value) (hx : a.eval x = .pointer (some ⟨g, 0, none⟩)) (hy : a.eval y = .agg cells) (hg : w.heap[g]? = some (.cells old t (0, 0)))
    (hi : (P.info? ty).map (·.size) = some cells.size) (hs : old.size = cells.size) (h1 : cells.all (·.oneCell') = true)
    (h : wpList P ops Q rest (a.put op.dst undef) (w.setRow g cells)) : wpList P ops Q (op :: rest) a w :=
  wpList_plain hgd fun _ hK => by
    unfold Oper.wp execOp
    simp only [ho, hx, hy, Instr.storeAt, Instr.sureAddr, Sem.run_bind, Sem.run_pure, Result.andThen_ok, run_storeVar_row w g t ty old cells hg hi hs h1]
    exact hK _ _ h
theorem alloc_setRow (w : World) (old cells : Array Value) (t : TypeId) : (w.alloc (.cells old t)).setRow w.heap.size cells = w.alloc (.cells cells t) := by
  unfold World.setRow World.alloc
  congr 1
  apply Array.ext_getElem?
  intro i
  rw [Array.getElem?_modify]
  simp only [Array.getElem?_push]
  by_cases hi : i = w.heap.size
  · subst hi; simp
  · rw [if_neg (fun e => hi e.symm), if_neg hi, if_neg hi]
/-- .. of a block that was laid last. -/
theorem wpList_store_new {P : Program} {ops : Array Oper} {rest : List Oper} {op : Oper} {a : Act} {w : World} {Q : Exit → Act → World → Prop} (hgd : op.guard = none) (ty : TypeId) (x y : Operand) (ho : op.op = .store ty x y)
    (t : TypeId) (old cells : Array Value) (hx : a.eval x = .pointer (some ⟨w.heap.size, 0, none⟩)) (hy : a.eval y = .agg cells)
    (hi : (P.info? ty).map (·.size) = some cells.size) (hs : old.size = cells.size) (h1 : cells.all (·.oneCell') = true)
    (h : wpList P ops Q rest (a.put op.dst undef) (w.alloc (.cells cells t))) : wpList P ops Q (op :: rest) a (w.alloc (.cells old t)) :=
  wpList_store_whole hgd ty x y ho w.heap.size t old cells hx hy (heap_alloc_new w _) hi hs h1 (by rw [alloc_setRow]; exact h)
theorem Try.sec128 : (Try.prog.info? 75).map (·.size) = some 128 := by kernel_rfl
theorem Try.zeroSec (w : World) : (zeroValue 75).run Try.prog w = .ok (.agg (bvs zeros).toArray) w := by kernel_rfl
theorem Try.secSize {l : List UInt8} (hl : l.length = 128) : (Try.prog.info? 75).map (·.size) = some (bvs l).toArray.size := by rw [List.size_toArray, bvs_length, hl]; exact Try.sec128
theorem Try.zeroSize {l : List UInt8} (hl : l.length = 128) : Try.zeroCells75.size = (bvs l).toArray.size := by
  have e : (bvs l).toArray.size = 128 := by rw [List.size_toArray, bvs_length, hl]
  exact Eq.trans (by kernel_rfl : Try.zeroCells75.size = 128) e.symm
theorem all_bvs (l : List UInt8) : (bvs l).toArray.all (·.oneCell') = true := all_oneCell_toArray (bvs_one l)
/-- Bytes that were handed out: a block of their own. -/
def Sec (w0 w : World) (v : Value) (l : List UInt8) : Prop := ∃ g, v = .slice (some ⟨g, 0, none⟩) 128 128 ∧ w0.heap.size ≤ g ∧ w.heap[g]? = some (.cells (bvs l).toArray 75 (0, 0)) ∧ l.length = 128
/-- What Sure and Read answer. -/
def Ans (w0 w : World) (v : Value) (y : List UInt8 × Int) : Prop := if y.2 = 0 then Sec w0 w v y.1 else v = .slice none 0 0

variable {w : World} {d g m n : Nat} {x : DS}
set_option maxRecDepth 100000 in
theorem sure_any (h : DiskAt Try.prog w d g m n x) (i : Int) : Calls Try.prog 33 #[.pointer (some ⟨d, 0, none⟩), .int .i64 i] w fun e w' => ∃ v, e = .returned (.tuple #[v, .int .i64 (x.sure i).2]) ∧ Ans w w' v (x.sure i) ∧ Below w.heap.size w w' := by
  have c2 := h.c2
  have H := Lib.hid h
  have HA := Lib.hid (has_any h i)
  unfold DS.sure
  by_cases hh : x.has i = false
  · rw [if_pos hh]
    rw [hh] at HA
    clear h
    go_enter Try.func33, Try.ntmps33
    go_wp2_with (go_at_call 35; refine HA.out.mono ?_; rintro e w' ⟨rfl, rfl⟩)
    go_ret2
    exact ⟨_, rfl, rfl, Below.refl _ _⟩
  · rw [if_neg hh]
    have ht : x.has i = true := by simpa using hh
    rw [ht] at HA
    simp [DS.has] at ht
    obtain ⟨k, rfl⟩ : ∃ k : Nat, i = (k : Int) := ⟨i.toNat, by omega⟩
    have hk : k < x.s.length := by omega
    have hsec := h.sector (List.getElem?_eq_getElem hk)
    have hl := h.len _ (List.getElem_mem hk)
    have hki : (k : Int) < (x.s.length : Int) := by omega
    have e : x.s.getD ((k : Int)).toNat [] = x.s[k] := by simp [List.getD, hk]
    rw [e]
    generalize x.s[k] = l at *
    clear h e
    go_enter Try.func33, Try.ntmps33
    go_wp2_with (first | (go_at_call 35; refine HA.out.mono ?_; rintro e w' ⟨rfl, rfl⟩) | (refine wpList_load_mid rfl 75 (.tmp 16) rfl g (k * 128) rfl (bvs l) _ hsec Try.underlying75 rfl (by rw [bvs_length, hl]; exact Try.sec128) ?_) | (refine wpList_store_new rfl 75 (.tmp 6) (.tmp 17) rfl 75 Try.zeroCells75 (bvs l).toArray rfl rfl (Try.secSize hl) (Try.zeroSize hl) (all_bvs l) ?_))
    go_ret2
    exact ⟨_, rfl, ⟨_, rfl, Nat.le_refl _, heap_alloc_new w _, hl⟩, (Below.refl _ _).alloc (Nat.le_refl _) _⟩
theorem Ans.from {w0 w1 w2 : World} {v : Value} {y : List UInt8 × Int} (h : Ans w1 w2 v y) (hs : w0.heap.size ≤ w1.heap.size) : Ans w0 w2 v y := by
  unfold Ans at h ⊢
  split
  · rename_i h0
    rw [if_pos h0] at h
    obtain ⟨g, e, hg, r⟩ := h
    exact ⟨g, e, Nat.le_trans hs hg, r⟩
  · rename_i h0
    rw [if_neg h0] at h
    exact h
set_option maxRecDepth 100000 in
theorem read_any (h : DiskAt Try.prog w d g m n x) (i : Int) (hw : wfi i) : Calls Try.prog 21 #[.pointer (some ⟨d, 0, none⟩), .int .i64 i] w fun e w' => ∃ v, e = .returned (.tuple #[v, .int .i64 (x.read i).2]) ∧ Ans w w' v (x.read i) ∧ Below w.heap.size w w' := by
  have c5 := h.c5
  unfold DS.read
  by_cases hd : x.down = true
  · rw [if_pos hd]
    rw [hd] at c5
    clear h
    go_enter Try.func21, Try.ntmps21
    go_wp2_with fail
    go_ret2
    exact ⟨_, rfl, rfl, Below.refl _ _⟩
  · rw [if_neg hd]
    have c3 := h.c3
    have hd' : x.down = false := by simpa using hd
    rw [hd'] at c5
    have MP := h.map
    cases hS : x.S i with
    | some l =>
      have hl := MP.len Try.underlying3 Try.underlying51 (Try.zeroSec w) hw hS
      clear h
      go_enter Try.func21, Try.ntmps21
      go_wp2_with (first | (at_lookup; refine wpList_look_some w rfl _ _ 51 rfl Try.underlying3 Try.underlying51 (Try.zeroSec w) rfl MP rfl hw hS ?_) | (refine wpList_store_new rfl 75 (.tmp 6) (.tmp 19) rfl 75 Try.zeroCells75 (bvs l).toArray rfl rfl (Try.secSize hl) (Try.zeroSize hl) (all_bvs l) ?_))
      go_ret2
      exact ⟨_, rfl, ⟨_, rfl, Nat.le_refl _, heap_alloc_new w _, hl⟩, (Below.refl _ _).alloc (Nat.le_refl _) _⟩
    | none =>
      have HS := Lib.hid (sure_any (h.alloc (.cells (bvs zeros).toArray 75)) i)
      generalize x.sure i = y at HS
      obtain ⟨y1, y2⟩ := y
      clear h
      go_enter Try.func21, Try.ntmps21
      go_wp2_with (first | (at_lookup; refine wpList_look_none w rfl _ _ 51 rfl Try.underlying3 Try.underlying51 (Try.zeroSec w) rfl MP rfl hw hS ?_) | (refine wpList_store_new rfl 75 (.tmp 6) (.tmp 19) rfl 75 Try.zeroCells75 (bvs zeros).toArray rfl rfl (Try.secSize zeros_length) (Try.zeroSize zeros_length) (all_bvs zeros) ?_) | (go_at_call 33; refine HS.out.mono ?_; rintro e w' ⟨v, rfl, ha, hb⟩))
      go_ret2
      exact ⟨_, rfl, ha.from (by simp), ((Below.refl _ _).alloc (Nat.le_refl _) _).trans (hb.mono (by simp))⟩
end Go.Proofs.Ythcliaaoadfegaa.Dk
