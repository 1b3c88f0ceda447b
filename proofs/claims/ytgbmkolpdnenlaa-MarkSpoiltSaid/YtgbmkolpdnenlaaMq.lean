/- Two marks held against each other. -/
import Derived.Test.YtgbmkolpdnenlaaMp
namespace Go.Proofs.Ytgbmkolpdnenlaa.Dk
open Go Go.RowKit
set_option linter.unusedVariables false
set_option linter.unusedSimpArgs false
theorem uvs_lit (l : List Nat) (i : Nat) (h : i < l.length) : (l.map uv).toArray[i]? = some (.int .u64 ((l.getD i 0 : Nat) : Int)) := by
  simp [uv, List.getD, h]
theorem Try.infoW64 : (Try.prog.info? 28).map (fun i => (i.zero, i.size, i.bytes)) = some (some (.int .u64 0), 1, 8) := by kernel_rfl
theorem part_word (l : List Nat) (i : Nat) (h : i < l.length) (w : World) : (part 28 (l.map uv).toArray (i * 1)).run Try.prog w = .ok (.int .u64 ((l.getD i 0 : Nat) : Int)) w := by
  obtain ⟨i0, hi0, hz0, hz1, hz2⟩ := info_parts Try.infoW64
  have hh := uvs_lit l i h
  have hs : i < (l.map uv).toArray.size := by simpa using h
  rw [Array.getElem?_eq_getElem hs] at hh
  have hv := Option.some.inj hh
  simp only [List.getElem_toArray] at hv
  have hsz : (sizeOf 28).run Try.prog w = .ok 1 w := by simp [sizeOf, typeInfo, hi0, hz1]
  have hl : i < (l.map uv).length := by simpa using hs
  simp [part, go_sem, hi0, hz1, hl, hv, sizeOf, typeInfo]
  rw [List.getElem?_eq_getElem h]
  rfl
theorem eq_words (l m : List Nat) (d : Nat) : ∀ (is : List Nat) (w : World), (∀ i ∈ is, i < l.length ∧ i < m.length) →
    (Op.eqItems (d + 1) 28 1 (l.map uv).toArray (m.map uv).toArray is).run Try.prog w = .ok (is.all fun i => l.getD i 0 == m.getD i 0) w
  | [], w, _ => by simp [Op.eqItems]
  | i :: is, w, h => by
    have hi := h i (by simp)
    have ih := eq_words l m d is w (fun j hj => h j (by simp [hj]))
    have hu : Try.prog.underlying 28 = some (.int .u64) := Try.underlying28
    have he : ∀ a b : Nat, (Op.equalIn (d + 1) 28 (.int .u64 (a : Int)) (.int .u64 (b : Int))).run Try.prog w = .ok (a == b) w := by
      intro a b
      have : (((a : Nat) : Int) == ((b : Nat) : Int)) = (a == b) := by
        rw [Bool.eq_iff_iff, beq_iff_eq, beq_iff_eq, Int.ofNat_inj]
      simp [Op.equalIn, run_underlying hu, this]
    simp only [Op.eqItems, Sem.run_bind, part_word l i hi.1, part_word m i hi.2, Result.andThen_ok, he]
    by_cases hb : (l.getD i 0 == m.getD i 0) = true
    · simp only [hb, Bool.not_true, Bool.false_eq_true, if_false, ih, List.all_cons, Bool.true_and]
    · simp only [Bool.not_eq_true] at hb
      simp only [hb, Bool.not_false, if_true, Sem.run_pure, List.all_cons, Bool.false_and]
set_option maxRecDepth 100000 in
theorem equal_six (l m : List Nat) (hl : l.length = 6) (hm : m.length = 6) (w : World) : (Op.equalIn 9999 32 (.agg (l.map uv).toArray) (.agg (m.map uv).toArray)).run Try.prog w = .ok (decide (l = m)) w := by
  obtain ⟨i0, hi0, hz0, hz1, hz2⟩ := info_parts Try.infoW64
  have hc : Try.prog.cellsOf 28 = 1 := by kernel_rfl
  have h := run_equalIn_array (P := Try.prog) w 9998 (t := 32) (l.map uv).toArray (m.map uv).toArray (show Try.prog.underlying 32 = some (.array 6 28) by kernel_rfl) hi0
  rw [show (9999 : Nat) = 9998 + 1 from rfl, h, hc, eq_words l m 9997 _ w (fun i hi => by have := List.mem_range.1 hi; omega)]
  congr 1
  rw [Bool.eq_iff_iff]
  simp only [List.all_eq_true, List.mem_range, beq_iff_eq, decide_eq_true_eq]
  constructor
  · intro hh
    apply List.ext_getElem (by omega)
    intro i h1 h2
    have := hh i (by omega)
    simpa [List.getD, h1, h2] using this
  · rintro rfl i _; rfl
set_option maxRecDepth 100000 in
set_option maxHeartbeats 1000000 in
theorem eql_mark (m n : MkD) (hm : m.Ok) (hn : n.Ok) (w : World) : (binOp .eql 34 (.agg m.cells.toArray) (.agg n.cells.toArray)).run Try.prog w = .ok (.bool (decide (m = n))) w := by
  obtain ⟨s, W⟩ := m
  obtain ⟨t, V⟩ := n
  have h6 := equal_six W V hm.len hn.len
  have e1 : (MkD.mk s W).cells.toArray = #[uv s] ++ (W.map uv).toArray := by simp [MkD.cells]
  have e2 : (MkD.mk t V).cells.toArray = #[uv t] ++ (V.map uv).toArray := by simp [MkD.cells]
  unfold binOp Op.equal
  rw [show Op.maxDepth = 9999 + 1 from rfl]
  simp [go_sem, Try.underlying34]
  have c1 : (MkD.mk s W).cells[0]? = some (uv s) := rfl
  have c2 : (MkD.mk t V).cells[0]? = some (uv t) := rfl
  have hl : W.length = 6 := hm.len
  have hk : V.length = 6 := hn.len
  have t1 : List.take 6 (MkD.mk s W).cells.tail = W.map uv := List.take_of_length_le (by show (W.map uv).length ≤ 6; simp [hl])
  have t2 : List.take 6 (MkD.mk t V).cells.tail = V.map uv := List.take_of_length_le (by show (V.map uv).length ≤ 6; simp [hk])
  rw [c1, c2, t1, t2]
  have he : ∀ w, (Op.equalIn 9999 28 (uv s) (uv t)).run Try.prog w = .ok ((s : Int) == (t : Int)) w := fun w => run_equalIn_int w 9998 28 .u64 .u64 (s : Int) (t : Int) Try.underlying28
  simp only [Sem.run_pure, Result.andThen_ok, he, h6]
  by_cases h1 : s = t
  · subst h1
    simp only [beq_self_eq_true, decide_true, Bool.true_and, Bool.true_eq_false, if_false, Result.andThen_ok, h6]
    cases decide (W = V) <;> rfl
  · have h2 : ((s : Int) == (t : Int)) = false := by rw [beq_eq_false_iff_ne]; omega
    simp only [h2, h1, decide_false, Bool.false_and, if_true, Result.andThen_ok]
theorem guard_mark : Try.prog.eqGuardType Try.prog.depth 34 = false := by kernel_rfl
theorem exec_eql_mark {o : Oper} {ev : Operand → Value} {x y : Operand} {s : TypeId} (ho : o.op = .binOp .eql 34 x y s) (m n : MkD) (hm : m.Ok) (hn : n.Ok) (hx : ev x = .agg m.cells.toArray) (hy : ev y = .agg n.cells.toArray) (w : World) :
    (execOp ev o).run Try.prog w = .ok (.value (.bool (decide (m = n)))) w := by
  have hg := guard_mark
  have hq := eql_mark m n hm hn w
  unfold execOp
  simp only [ho, hx, hy]
  simp [eqGuard, Sem.run_bind, hg, hq]
end Go.Proofs.Ytgbmkolpdnenlaa.Dk
