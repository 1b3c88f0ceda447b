/- Two tasks held against each other. -/
import Derived.Test.YtjjmjbemflhlbaaNH
namespace Go.Proofs.Ytjjmjbemflhlbaa.Qu
open Go Go.RowKit Go.Proofs.Ytjjmjbemflhlbaa
open Go.Proofs.Ytjjmjbemflhlbaa.Hp (K3 kv KLit wf3 i64wf kv_inj)
set_option linter.unusedVariables false
set_option linter.unusedSimpArgs false
set_option maxRecDepth 100000
theorem task_equal (a b : K3) (w : World) : (Op.equalIn 10000 32 (.agg (kcs a).toArray) (.agg (kcs b).toArray)).run Try.prog w = .ok (decide (a = b)) w := by
  obtain ⟨a1, a2, a3⟩ := a
  obtain ⟨b1, b2, b3⟩ := b
  rw [show (10000 : Nat) = 9999 + 1 from rfl]
  have he : ∀ (a b : Int) w, (Op.equalIn 9999 3 (.int .i64 a) (.int .i64 b)).run Try.prog w = .ok (a == b) w := fun a b w => run_equalIn_int w 9998 3 .i64 .i64 a b Try.underlying3
  have he2 : ∀ (a b : Int) w, (Op.equalIn 9999 2 (.int .i64 a) (.int .i64 b)).run Try.prog w = .ok (a == b) w := fun a b w => run_equalIn_int w 9998 2 .i64 .i64 a b Try.underlying2
  by_cases h1 : a1 = b1 <;> by_cases h2 : a2 = b2 <;> by_cases h3 : a3 = b3 <;> simp [go_sem, Try.underlying32, he, he2, kcs, h1, h2, h3]
theorem task_eql (a b : K3) (w : World) : (binOp .eql 32 (.agg (kcs a).toArray) (.agg (kcs b).toArray)).run Try.prog w = .ok (.bool (decide (a = b))) w := by
  rw [run_eql_struct, task_equal]
  rfl
theorem task_neq (a b : K3) (w : World) : (binOp .neq 32 (.agg (kcs a).toArray) (.agg (kcs b).toArray)).run Try.prog w = .ok (.bool (!decide (a = b))) w := by
  rw [run_neq_struct, task_equal]
  rfl
theorem task_guard : Try.prog.eqGuardType Try.prog.depth 32 = false := by kernel_rfl
theorem exec_teql {o : Oper} {ev : Operand → Value} {x y : Operand} {s : TypeId} (ho : o.op = .binOp .eql 32 x y s) (a b : K3) (hx : ev x = .agg (kcs a).toArray) (hy : ev y = .agg (kcs b).toArray) (w : World) :
    (execOp ev o).run Try.prog w = .ok (.value (.bool (decide (a = b)))) w := by
  have hg := task_guard
  have hq := task_eql a b w
  unfold execOp
  simp only [ho, hx, hy]
  simp [eqGuard, Sem.run_bind, hg, hq]
theorem exec_tneq {o : Oper} {ev : Operand → Value} {x y : Operand} {s : TypeId} (ho : o.op = .binOp .neq 32 x y s) (a b : K3) (hx : ev x = .agg (kcs a).toArray) (hy : ev y = .agg (kcs b).toArray) (w : World) :
    (execOp ev o).run Try.prog w = .ok (.value (.bool (!decide (a = b)))) w := by
  have hg := task_guard
  have hq := task_neq a b w
  unfold execOp
  simp only [ho, hx, hy]
  simp [eqGuard, Sem.run_bind, hg, hq]
theorem wpList_teql {ops : Array Oper} {rest : List Oper} {o : Oper} {a : Act} {w : World} {Q : Exit → Act → World → Prop} (hw : Region.wanted o (yielded ops a.tmps) = true) (x y : Operand) (s : TypeId) (ho : o.op = .binOp .eql 32 x y s) (k l : K3) (hx : a.eval x = .agg (kcs k).toArray) (hy : a.eval y = .agg (kcs l).toArray)
    (h : wpList Try.prog ops Q rest (a.put o.dst (.bool (decide (k = l)))) w) : wpList Try.prog ops Q (o :: rest) a w :=
  wpList_runWanted hw _ (exec_teql ho k l hx hy w) h
theorem wpList_tneq {ops : Array Oper} {rest : List Oper} {o : Oper} {a : Act} {w : World} {Q : Exit → Act → World → Prop} (hw : Region.wanted o (yielded ops a.tmps) = true) (x y : Operand) (s : TypeId) (ho : o.op = .binOp .neq 32 x y s) (k l : K3) (hx : a.eval x = .agg (kcs k).toArray) (hy : a.eval y = .agg (kcs l).toArray)
    (h : wpList Try.prog ops Q rest (a.put o.dst (.bool (!decide (k = l)))) w) : wpList Try.prog ops Q (o :: rest) a w :=
  wpList_runWanted hw _ (exec_tneq ho k l hx hy w) h
end Go.Proofs.Ytjjmjbemflhlbaa.Qu
