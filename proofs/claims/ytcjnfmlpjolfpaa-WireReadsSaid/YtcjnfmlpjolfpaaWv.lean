/- Sums held against each other; steps of a region that draws its order. -/
import Derived.Test.YtcjnfmlpjolfpaaWu
import Derived.Test.YtcjnfmlpjolfpaaUk
import Derived.ChangeKeysEq
namespace Go.Proofs.Ytcjnfmlpjolfpaa
open Go Go.RowKit
set_option linter.unusedVariables false
set_option linter.unusedSimpArgs false
theorem bvs_lit (l : List UInt8) (i : Nat) (h : i < l.length) : (bvs l).toArray[i]? = some (.int .u8 ((l.getD i 0).toNat : Int)) := by
  simp [bvs, bv, List.getD, h]
theorem part_byte (l : List UInt8) (i : Nat) (h : i < l.length) (w : World) : (part 5 (bvs l).toArray (i * 1)).run Try.prog w = .ok (.int .u8 ((l.getD i 0).toNat : Int)) w := by
  obtain ⟨i0, hi0, hz0, hz1, hz2⟩ := info_parts Try.info5
  have hh := bvs_lit l i h
  have hs : i < (bvs l).toArray.size := by simpa [bvs] using h
  rw [Array.getElem?_eq_getElem hs] at hh
  have hv := Option.some.inj hh
  simp only [List.getElem_toArray] at hv
  have hsz : (sizeOf 5).run Try.prog w = .ok 1 w := by simp [sizeOf, typeInfo, hi0, hz1]
  have hl : i < (bvs l).length := by simpa using hs
  simp [part, go_sem, hi0, hz1, hl, hv, sizeOf, typeInfo]
theorem eq_bytes (l m : List UInt8) (d : Nat) : ∀ (is : List Nat) (w : World), (∀ i ∈ is, i < l.length ∧ i < m.length) →
    (Op.eqItems (d + 1) 5 1 (bvs l).toArray (bvs m).toArray is).run Try.prog w = .ok (is.all fun i => l.getD i 0 == m.getD i 0) w
  | [], w, _ => by simp [Op.eqItems]
  | i :: is, w, h => by
    have hi := h i (by simp)
    have ih := eq_bytes l m d is w (fun j hj => h j (by simp [hj]))
    have hu : Try.prog.underlying 5 = some (.int .u8) := Try.underlying5
    have he : ∀ a b : UInt8, (Op.equalIn (d + 1) 5 (.int .u8 (a.toNat : Int)) (.int .u8 (b.toNat : Int))).run Try.prog w = .ok (a == b) w := by
      intro a b
      have : (((a.toNat : Nat) : Int) == ((b.toNat : Nat) : Int)) = (a == b) := by
        rw [Bool.eq_iff_iff, beq_iff_eq, beq_iff_eq, Int.ofNat_inj, UInt8.toNat_inj]
      simp [Op.equalIn, run_underlying hu, this]
    simp only [Op.eqItems, Sem.run_bind, part_byte l i hi.1, part_byte m i hi.2, Result.andThen_ok, he]
    by_cases hb : (l.getD i 0 == m.getD i 0) = true
    · simp only [hb, Bool.not_true, Bool.false_eq_true, if_false, ih, List.all_cons, Bool.true_and]
    · simp only [Bool.not_eq_true] at hb
      simp only [hb, Bool.not_false, if_true, Sem.run_pure, List.all_cons, Bool.false_and]
set_option maxRecDepth 100000 in
theorem equal_sum (l m : List UInt8) (hl : l.length = 32) (hm : m.length = 32) (w : World) : (Op.equal 29 (.agg (bvs l).toArray) (.agg (bvs m).toArray)).run Try.prog w = .ok (decide (l = m)) w := by
  obtain ⟨i0, hi0, hz0, hz1, hz2⟩ := info_parts Try.info5
  have hc : Try.prog.cellsOf 5 = 1 := by kernel_rfl
  have h := run_equalIn_array (P := Try.prog) w 9999 (t := 29) (bvs l).toArray (bvs m).toArray (show Try.prog.underlying 29 = some (.array 32 5) by kernel_rfl) hi0
  have hd : Op.maxDepth = 9999 + 1 := rfl
  unfold Op.equal
  rw [hd, h, hc, eq_bytes l m 9998 _ w (fun i hi => by have := List.mem_range.1 hi; omega)]
  congr 1
  rw [Bool.eq_iff_iff]
  simp only [List.all_eq_true, List.mem_range, beq_iff_eq, decide_eq_true_eq]
  constructor
  · intro hh
    apply List.ext_getElem (by omega)
    intro i h1 h2
    have := hh i (by omega)
    simpa [List.getD, h1, h2] using this
  · rintro rfl i _; rfl
theorem neq_sum (l m : List UInt8) (hl : l.length = 32) (hm : m.length = 32) (w : World) : (binOp .neq 29 (.agg (bvs l).toArray) (.agg (bvs m).toArray)).run Try.prog w = .ok (.bool (!decide (l = m))) w := by
  simp [binOp, equal_sum l m hl hm]
theorem guard_sum : Try.prog.eqGuardType Try.prog.depth 29 = false := by kernel_rfl
theorem exec_neq {o : Oper} {ev : Operand → Value} {x y : Operand} {s : TypeId} (ho : o.op = .binOp .neq 29 x y s) (l : List UInt8) (hl : l.length = 32) (hx : ev x = .agg (bvs l).toArray) (hy : ev y = .agg (bvs l).toArray) (w : World) :
    (execOp ev o).run Try.prog w = .ok (.value (.bool false)) w := by
  have hg := guard_sum
  have hn := neq_sum l l hl hl w
  rw [decide_eq_true (rfl : l = l)] at hn
  unfold execOp
  simp only [ho, hx, hy]
  simp [eqGuard, Sem.run_bind, hg, hn]
section
variable {P : Program} {Q : Exit → Act → World → Prop}
theorem slot_loadW {o : Oper} {a : Act} {w : World} {K : Act → World → Prop} (ty : TypeId) (x : Operand) (ho : o.op = .load ty x)
    (p : Addr) (hx : a.eval x = .pointer (some p)) (cs : List Value) (d : TypeDesc) (hc : ∀ j v, cs[j]? = some v → w.cell? (p.add j) = some v)
    (hu : P.underlying ty = some d) (hd : d.isRow = true) (hi : (P.info? ty).map (·.size) = some cs.length) (h : K (a.put o.dst (.agg cs.toArray)) w) : o.wp P a w K Q := by
  unfold Oper.wp execOp
  simp only [ho, hx, Instr.loadAt, Instr.sureAddr, Sem.run_bind, Sem.run_pure, Result.andThen_ok, run_loadVar_allW w p ty cs d hc hu hd hi]
  exact h
theorem runW {P : Program} {o : Oper} {a : Act} {w : World} {r : Result Next} (ev : Operand → Value) (h1 : (execOp a.eval o).run P w = (execOp ev o).run P w) (h2 : (execOp ev o).run P w = r) : (execOp a.eval o).run P w = r := h1.trans h2
end
/-- What the region that reads a sum leaves in its slots, and in memory. -/
def smF (S : List UInt8) (b2 k9 : Nat) (j : Nat) (v : Value) (_ : World) : Prop := match j with
  | 0 => v = .pointer (some ⟨b2, 0, none⟩)
  | 1 => v = .agg (bvs S).toArray
  | 2 => v = .pointer (some ⟨k9, 4, none⟩)
  | 3 => v = .agg (bvs S).toArray
  | 4 => v = .bool false
  | _ => True
def smS (w9 : World) (b2 : Nat) (r2 : Option Nat) (XS : List UInt8) (pos q : Nat) (L : Nat → Bool) (wx : World) : Prop := Rd wx b2 r2 XS (if L 1 = true then q else pos) 0 ∧ Fr w9 wx b2 none
theorem smKeep {w9 wx : World} {b2 : Nat} {r2 : Option Nat} {XS : List UInt8} {pos q i : Nat} {L : Nat → Bool} (h : smS w9 b2 r2 XS pos q L wx) (hi : 1 ≠ i) : smS w9 b2 r2 XS pos q (upd L i true) wx := by
  unfold smS
  rw [upd_ne _ _ hi]
  exact h
/-- Bytes read so far, one after another. -/
def WbRel (w9 : World) (b2 : Nat) (r2 : Option Nat) (XS : List UInt8) (pos n : Nat) (u : Value) (wr : World) : Prop :=
  ∃ j : Nat, u = .int .i64 (j : Int) ∧ j ≤ n ∧ Rd wr b2 r2 XS (pos + j) 0 ∧ Fr w9 wr b2 none
end Go.Proofs.Ytcjnfmlpjolfpaa
