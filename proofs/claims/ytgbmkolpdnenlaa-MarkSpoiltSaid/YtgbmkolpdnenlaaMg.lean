/- Two sectors held against each other. -/
import Derived.Test.YtgbmkolpdnenlaaMd
import Derived.ChangeKeysEq
namespace Go.Proofs.Ytgbmkolpdnenlaa.Dk
open Go Go.RowKit
set_option linter.unusedVariables false
set_option linter.unusedSimpArgs false

theorem bvs_lit (l : List UInt8) (i : Nat) (h : i < l.length) : (bvs l).toArray[i]? = some (.int .u8 ((l.getD i 0).toNat : Int)) := by
  simp [bvs, bv, List.getD, h]
set_option maxRecDepth 100000 in
set_option maxHeartbeats 1000000 in
theorem Try.infoU8e : (Try.prog.info? 5).map (fun i => (i.zero, i.size, i.bytes)) = some (some (.int .u8 0), 1, 1) := by kernel_rfl
theorem part_byte (l : List UInt8) (i : Nat) (h : i < l.length) (w : World) : (part 5 (bvs l).toArray (i * 1)).run Try.prog w = .ok (.int .u8 ((l.getD i 0).toNat : Int)) w := by
  obtain ⟨i0, hi0, hz0, hz1, hz2⟩ := info_parts Try.infoU8e
  have hh := bvs_lit l i h
  have hs : i < (bvs l).toArray.size := by simpa [bvs] using h
  rw [Array.getElem?_eq_getElem hs] at hh
  have hv := Option.some.inj hh
  simp only [List.getElem_toArray] at hv
  have hsz : (sizeOf 5).run Try.prog w = .ok 1 w := by simp [sizeOf, typeInfo, hi0, hz1]
  have hl : i < (bvs l).length := by simpa using hs
  simp [part, go_sem, hi0, hz1, hl, hv, sizeOf, typeInfo]
theorem eq_bytes (l m : List UInt8) (d : Nat) : ∀ (is : List Nat) (w : World), (∀ i ∈ is, i < l.length ∧ i < m.length) →
    (Op.eqItems (d + 1) 5 1 (bvs l).toArray (bvs m).toArray is).run Try.prog w = .ok (is.all fun i => l.getD i 0 == m.getD i 0) w
  | [], w, _ => by simp [Op.eqItems]
  | i :: is, w, h => by
    have hi := h i (by simp)
    have ih := eq_bytes l m d is w (fun j hj => h j (by simp [hj]))
    have hu : Try.prog.underlying 5 = some (.int .u8) := Try.underlying5
    have he : ∀ a b : UInt8, (Op.equalIn (d + 1) 5 (.int .u8 (a.toNat : Int)) (.int .u8 (b.toNat : Int))).run Try.prog w = .ok (a == b) w := by
      intro a b
      have : (((a.toNat : Nat) : Int) == ((b.toNat : Nat) : Int)) = (a == b) := by
        rw [Bool.eq_iff_iff, beq_iff_eq, beq_iff_eq, Int.ofNat_inj, UInt8.toNat_inj]
      simp [Op.equalIn, run_underlying hu, this]
    simp only [Op.eqItems, Sem.run_bind, part_byte l i hi.1, part_byte m i hi.2, Result.andThen_ok, he]
    by_cases hb : (l.getD i 0 == m.getD i 0) = true
    · simp only [hb, Bool.not_true, Bool.false_eq_true, if_false, ih, List.all_cons, Bool.true_and]
    · simp only [Bool.not_eq_true] at hb
      simp only [hb, Bool.not_false, if_true, Sem.run_pure, List.all_cons, Bool.false_and]
set_option maxRecDepth 100000 in
theorem equal_sec (l m : List UInt8) (hl : l.length = 128) (hm : m.length = 128) (w : World) : (Op.equal 93 (.agg (bvs l).toArray) (.agg (bvs m).toArray)).run Try.prog w = .ok (decide (l = m)) w := by
  obtain ⟨i0, hi0, hz0, hz1, hz2⟩ := info_parts Try.infoU8e
  have hc : Try.prog.cellsOf 5 = 1 := by kernel_rfl
  have h := run_equalIn_array (P := Try.prog) w 9999 (t := 93) (bvs l).toArray (bvs m).toArray (show Try.prog.underlying 93 = some (.array 128 5) by kernel_rfl) hi0
  have hd : Op.maxDepth = 9999 + 1 := rfl
  unfold Op.equal
  rw [hd, h, hc, eq_bytes l m 9998 _ w (fun i hi => by have := List.mem_range.1 hi; omega)]
  congr 1
  rw [Bool.eq_iff_iff]
  simp only [List.all_eq_true, List.mem_range, beq_iff_eq, decide_eq_true_eq]
  constructor
  · intro hh
    apply List.ext_getElem (by omega)
    intro i h1 h2
    have := hh i (by omega)
    simpa [List.getD, h1, h2] using this
  · rintro rfl i _; rfl
theorem eql_sec (l m : List UInt8) (hl : l.length = 128) (hm : m.length = 128) (w : World) : (binOp .eql 93 (.agg (bvs l).toArray) (.agg (bvs m).toArray)).run Try.prog w = .ok (.bool (decide (l = m))) w := by
  simp [binOp, equal_sec l m hl hm]
theorem guard_sec : Try.prog.eqGuardType Try.prog.depth 93 = false := by kernel_rfl
theorem exec_eql {o : Oper} {ev : Operand → Value} {x y : Operand} {s : TypeId} (ho : o.op = .binOp .eql 93 x y s) (l m : List UInt8) (hl : l.length = 128) (hm : m.length = 128) (hx : ev x = .agg (bvs l).toArray) (hy : ev y = .agg (bvs m).toArray) (w : World) :
    (execOp ev o).run Try.prog w = .ok (.value (.bool (decide (l = m)))) w := by
  have hg := guard_sec
  have hn := eql_sec l m hl hm w
  unfold execOp
  simp only [ho, hx, hy]
  simp [eqGuard, Sem.run_bind, hg, hn]
end Go.Proofs.Ytgbmkolpdnenlaa.Dk
