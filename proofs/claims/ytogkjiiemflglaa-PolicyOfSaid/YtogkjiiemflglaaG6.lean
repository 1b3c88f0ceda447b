/- The head of the statements of policies. -/
import Derived.Test.YtogkjiiemflglaaG5
namespace Go.Proofs.Ytogkjiiemflglaa
open Go Go.RowKit
set_option linter.unusedVariables false
set_option linter.unusedSimpArgs false
theorem below_drewG {B : Nat} {a w : World} (h : Below B a w) (n : Nat) : Below B a (w.drewN n) := ⟨h.os, h.tape, h.output, h.size, h.block⟩
set_option maxRecDepth 100000 in
set_option maxHeartbeats 2000000 in
theorem eql_pol (a f k m l : Int) (w : World) : (binOp .eql 23 (.agg #[.int .i64 a, .int .i64 f, .int .i64 k, .int .i64 m, .int .i64 l]) (.agg #[.int .i64 a, .int .i64 f, .int .i64 k, .int .i64 m, .int .i64 l])).run Try.prog w = .ok (.bool true) w := by
  unfold binOp Op.equal
  rw [show Op.maxDepth = 9999 + 1 from rfl]
  have he : ∀ (a b : Int) w, (Op.equalIn 9999 3 (.int .i64 a) (.int .i64 b)).run Try.prog w = .ok (a == b) w := fun a b w => run_equalIn_int w 9998 3 .i64 .i64 a b Try.underlying3
  have he2 : ∀ (a b : Int) w, (Op.equalIn 9999 2 (.int .i64 a) (.int .i64 b)).run Try.prog w = .ok (a == b) w := fun a b w => run_equalIn_int w 9998 2 .i64 .i64 a b Try.underlying2
  simp [go_sem, Try.underlying23, he, he2]
theorem guard_pol : Try.prog.eqGuardType Try.prog.depth 23 = false := by kernel_rfl
theorem exec_pol {o : Oper} {ev : Operand → Value} {x y : Operand} {s : TypeId} (ho : o.op = .binOp .eql 23 x y s) (a f k m l : Int) (hx : ev x = pol a f k m l) (hy : ev y = pol a f k m l) (w : World) :
    (execOp ev o).run Try.prog w = .ok (.value (.bool true)) w := by
  have hg := guard_pol
  have hq := eql_pol a f k m l w
  unfold execOp
  simp only [ho, hx, hy, pol]
  simp [eqGuard, Sem.run_bind, hg, hq]
theorem wpList_eqPol {ops : Array Oper} {rest : List Oper} {o : Oper} {a : Act} {w : World} {Q : Exit → Act → World → Prop} (hgd : o.guard = none) (x y : Operand) (s : TypeId) (ho : o.op = .binOp .eql 23 x y s) (t f k m l : Int) (hx : a.eval x = pol t f k m l) (hy : a.eval y = pol t f k m l)
    (h : wpList Try.prog ops Q rest (a.put o.dst (.bool true)) w) : wpList Try.prog ops Q (o :: rest) a w :=
  wpList_plain hgd fun _ hK => by
    unfold Oper.wp
    rw [exec_pol ho t f k m l hx hy w]
    exact hK _ _ h
set_option maxHeartbeats 16000000 in
set_option maxRecDepth 100000 in
theorem tries_any (w : World) : Calls Try.prog 8 #[] w fun e w' => e = .returned (.bool true) ∧ Below w.heap.size w w' := by
  obtain ⟨w1, hw1⟩ : ∃ w1, w1 = w.alloc (.cells #[.int .i64 3, .int .i64 2, .int .i64 3, .int .i64 0, .int .i64 0] 23) := ⟨_, rfl⟩
  obtain ⟨g, hg⟩ : ∃ g, g = w.heap.size := ⟨_, rfl⟩
  have b1 : Below w.heap.size w w1 := by rw [hw1]; exact below_new _ _
  have nk : w1.heap[g]? = some (.cells #[.int .i64 3, .int .i64 2, .int .i64 3, .int .i64 0, .int .i64 0] 23 (0, 0)) := by rw [hw1, hg]; exact heap_alloc_new _ _
  have ok : okP 3 2 3 0 0 = true := by decide
  have QN := Lib.hid (show ∀ W, Calls Try.prog 9 #[pol 3 2 3 0 0] W fun e w' => e = .returned (.tuple #[.int .i64 2082, .int .i64 0]) ∧ Below W.heap.size W w' from fun W => number_any 3 2 3 0 0 W)
  have Q1 := Lib.hid (show ∀ W, Calls Try.prog 13 #[pol 3 2 3 0 0, .int .i64 1] W fun e w' => e = .returned (.tuple #[.int .i64 2, .bool true]) ∧ Below W.heap.size W w' from fun W => wait_any 3 2 3 0 0 1 ok (by decide) W)
  have Q2 := Lib.hid (show ∀ W, Calls Try.prog 13 #[pol 3 2 3 0 0, .int .i64 2] W fun e w' => e = .returned (.tuple #[.int .i64 6, .bool true]) ∧ Below W.heap.size W w' from fun W => wait_any 3 2 3 0 0 2 ok (by decide) W)
  have Q3 := Lib.hid (show ∀ W, Calls Try.prog 13 #[pol 3 2 3 0 0, .int .i64 3] W fun e w' => e = .returned (.tuple #[.int .i64 0, .bool false]) ∧ Below W.heap.size W w' from fun W => wait_any 3 2 3 0 0 3 ok (by decide) W)
  have QA := Lib.hid (show ∀ W, Calls Try.prog 14 #[pol 3 2 3 0 0, .int .i64 1, .int .i64 10] W fun e w' => e = .returned (.tuple #[.int .i64 12, .bool true]) ∧ Below W.heap.size W w' from fun W => again_any 3 2 3 0 0 1 10 ok (by decide) (by decide) W)
  have QO := Lib.hid (show ∀ W, Calls Try.prog 12 #[.int .i64 2082] W fun e w' => e = .returned (pol 3 2 3 0 0) ∧ Below W.heap.size W w' from fun W => of_any 2082 W)
  have QZ := Lib.hid (show ∀ W, Calls Try.prog 12 #[.int .i64 0] W fun e w' => e = .returned (pol 1 0 1 0 0) ∧ Below W.heap.size W w' from fun W => of_any 0 W)
  have KA := Lib.hid (fun (W : World) (h : Below w1.heap.size w1 W) => polAll nk h)
  have HW1 := Lib.hid hw1
  have HG := Lib.hid hg
  have B1 := Lib.hid b1
  clear hw1 hg b1 nk ok
  unfold pol at QN Q1 Q2 Q3 QA QO QZ
  go_enter Try.func8, Try.ntmps8
  go_upto_region 2 with fail
  rw [← HW1.out, ← HG.out]
  have BB1 := Lib.hid (Below.refl w1.heap.size w1)
  go_wp2_with (with_reducible show wpList _ _ _ _ _ _; refine wpList_load_allW rfl 23 (.tmp 1) rfl ⟨g, 0, none⟩ rfl (polL 3 2 3 0 0) _ (KA.out _ BB1.out) Try.underlying23 rfl (polSizeL 3 2 3 0 0) ?_)
  refine (QN.out _).mono ?_
  rintro e w2 ⟨rfl, hb⟩
  have BB2 := Lib.hid (BB1.out.trans (hb.mono BB1.out.size))
  clear hb
  go_wp2_with (with_reducible show wpList _ _ _ _ _ _; refine wpList_load_allW rfl 23 (.tmp 1) rfl ⟨g, 0, none⟩ rfl (polL 3 2 3 0 0) _ (KA.out _ BB2.out) Try.underlying23 rfl (polSizeL 3 2 3 0 0) ?_)
  refine (Q1.out _).mono ?_
  rintro e w3 ⟨rfl, hb⟩
  have BB3 := Lib.hid (BB2.out.trans (hb.mono BB2.out.size))
  clear hb
  go_wp2_with (with_reducible show wpList _ _ _ _ _ _; refine wpList_load_allW rfl 23 (.tmp 1) rfl ⟨g, 0, none⟩ rfl (polL 3 2 3 0 0) _ (KA.out _ BB3.out) Try.underlying23 rfl (polSizeL 3 2 3 0 0) ?_)
  refine (Q2.out _).mono ?_
  rintro e w4 ⟨rfl, hb⟩
  have BB4 := Lib.hid (BB3.out.trans (hb.mono BB3.out.size))
  clear hb
  go_wp2_with (with_reducible show wpList _ _ _ _ _ _; refine wpList_load_allW rfl 23 (.tmp 1) rfl ⟨g, 0, none⟩ rfl (polL 3 2 3 0 0) _ (KA.out _ BB4.out) Try.underlying23 rfl (polSizeL 3 2 3 0 0) ?_)
  refine (Q3.out _).mono ?_
  rintro e w5 ⟨rfl, hb⟩
  have BB5 := Lib.hid (BB4.out.trans (hb.mono BB4.out.size))
  clear hb
  go_wp2_with (with_reducible show wpList _ _ _ _ _ _; refine wpList_load_allW rfl 23 (.tmp 1) rfl ⟨g, 0, none⟩ rfl (polL 3 2 3 0 0) _ (KA.out _ BB5.out) Try.underlying23 rfl (polSizeL 3 2 3 0 0) ?_)
  refine (QA.out _).mono ?_
  rintro e w6 ⟨rfl, hb⟩
  have BB6 := Lib.hid (BB5.out.trans (hb.mono BB5.out.size))
  clear hb
  go_upto_region 7 with fail
  refine wp_region_quiet_in (fun w' => Below w1.heap.size w1 w') (by kernel_rfl) (by kernel_rfl) (below_drewG BB6.out 1) ?_
  refine wpQuiet_runG (v := .int .i64 0) (by kernel_rfl) (fun w' hC => by first | rfl | go_simp) ?_
  simp only [Act.put, List.setIfInBounds_toArray, List.set_cons_zero, List.set_cons_succ, List.getElem_toArray, List.getElem_cons_zero, List.getElem_cons_succ]
  refine wpQuiet_runG (v := .bool true) (by kernel_rfl) (fun w' hC => by first | rfl | go_simp) ?_
  simp only [Act.put, List.setIfInBounds_toArray, List.set_cons_zero, List.set_cons_succ, List.getElem_toArray, List.getElem_cons_zero, List.getElem_cons_succ]
  refine wpQuiet_runG (v := .bool true) (by kernel_rfl) (fun w' hC => by first | rfl | go_simp) ?_
  simp only [Act.put, List.setIfInBounds_toArray, List.set_cons_zero, List.set_cons_succ, List.getElem_toArray, List.getElem_cons_zero, List.getElem_cons_succ]
  refine wpQuiet_runG (v := .int .i64 2082) (by kernel_rfl) (fun w' hC => by first | rfl | go_simp) ?_
  simp only [Act.put, List.setIfInBounds_toArray, List.set_cons_zero, List.set_cons_succ, List.getElem_toArray, List.getElem_cons_zero, List.getElem_cons_succ]
  refine wpQuiet_callG (f := 12) (xs := #[.tmp 41]) #[.int .i64 2082] (pol 3 2 3 0 0) (by kernel_rfl) rfl Try.func12 (by kernel_rfl) (by kernel_rfl) (by simp [Act.eval]) (fun W hW => (QO.out W).mono fun e w' h => ⟨h.1, Below.trans hW (h.2.mono hW.size)⟩) ?_
  simp only [Act.put, List.setIfInBounds_toArray, List.set_cons_zero, List.set_cons_succ, List.getElem_toArray, List.getElem_cons_zero, List.getElem_cons_succ]
  refine wpQuiet_loadG (by kernel_rfl) 23 (.tmp 1) rfl ⟨g, 0, none⟩ rfl (polL 3 2 3 0 0) _ (fun w' hC => KA.out w' hC) Try.underlying23 rfl (polSizeL 3 2 3 0 0) ?_
  simp only [Act.put, List.setIfInBounds_toArray, List.set_cons_zero, List.set_cons_succ, List.getElem_toArray, List.getElem_cons_zero, List.getElem_cons_succ]
  refine wpQuiet_runG (v := .bool true) (by kernel_rfl) (fun w' hC => by exact exec_pol rfl 3 2 3 0 0 rfl rfl w') ?_
  simp only [Act.put, List.setIfInBounds_toArray, List.set_cons_zero, List.set_cons_succ, List.getElem_toArray, List.getElem_cons_zero, List.getElem_cons_succ]
  refine wpQuiet_runG (v := .bool true) (by kernel_rfl) (fun w' hC => by first | rfl | go_simp) ?_
  simp only [Act.put, List.setIfInBounds_toArray, List.set_cons_zero, List.set_cons_succ, List.getElem_toArray, List.getElem_cons_zero, List.getElem_cons_succ]
  refine wpQuiet_runG (v := .bool true) (by kernel_rfl) (fun w' hC => by first | rfl | go_simp) ?_
  simp only [Act.put, List.setIfInBounds_toArray, List.set_cons_zero, List.set_cons_succ, List.getElem_toArray, List.getElem_cons_zero, List.getElem_cons_succ]
  refine wpQuiet_runG (v := .bool true) (by kernel_rfl) (fun w' hC => by first | rfl | go_simp) ?_
  simp only [Act.put, List.setIfInBounds_toArray, List.set_cons_zero, List.set_cons_succ, List.getElem_toArray, List.getElem_cons_zero, List.getElem_cons_succ]
  refine wpQuiet_runG (v := .bool true) (by kernel_rfl) (fun w' hC => by first | rfl | go_simp) ?_
  simp only [Act.put, List.setIfInBounds_toArray, List.set_cons_zero, List.set_cons_succ, List.getElem_toArray, List.getElem_cons_zero, List.getElem_cons_succ]
  refine wpQuiet_runG (v := .bool true) (by kernel_rfl) (fun w' hC => by first | rfl | go_simp) ?_
  simp only [Act.put, List.setIfInBounds_toArray, List.set_cons_zero, List.set_cons_succ, List.getElem_toArray, List.getElem_cons_zero, List.getElem_cons_succ]
  refine wpQuiet_runG (v := .int .i64 2) (by kernel_rfl) (fun w' hC => by first | rfl | go_simp) ?_
  simp only [Act.put, List.setIfInBounds_toArray, List.set_cons_zero, List.set_cons_succ, List.getElem_toArray, List.getElem_cons_zero, List.getElem_cons_succ]
  refine wpQuiet_runG (v := .bool true) (by kernel_rfl) (fun w' hC => by first | rfl | go_simp) ?_
  simp only [Act.put, List.setIfInBounds_toArray, List.set_cons_zero, List.set_cons_succ, List.getElem_toArray, List.getElem_cons_zero, List.getElem_cons_succ]
  refine wpQuiet_runG (v := .bool true) (by kernel_rfl) (fun w' hC => by first | rfl | go_simp) ?_
  simp only [Act.put, List.setIfInBounds_toArray, List.set_cons_zero, List.set_cons_succ, List.getElem_toArray, List.getElem_cons_zero, List.getElem_cons_succ]
  refine wpQuiet_runG (v := .bool true) (by kernel_rfl) (fun w' hC => by first | rfl | go_simp) ?_
  simp only [Act.put, List.setIfInBounds_toArray, List.set_cons_zero, List.set_cons_succ, List.getElem_toArray, List.getElem_cons_zero, List.getElem_cons_succ]
  refine wpQuiet_runG (v := .bool true) (by kernel_rfl) (fun w' hC => by first | rfl | go_simp) ?_
  simp only [Act.put, List.setIfInBounds_toArray, List.set_cons_zero, List.set_cons_succ, List.getElem_toArray, List.getElem_cons_zero, List.getElem_cons_succ]
  refine wpQuiet_runG (v := .bool true) (by kernel_rfl) (fun w' hC => by first | rfl | go_simp) ?_
  simp only [Act.put, List.setIfInBounds_toArray, List.set_cons_zero, List.set_cons_succ, List.getElem_toArray, List.getElem_cons_zero, List.getElem_cons_succ]
  refine wpQuiet_runG (v := .bool true) (by kernel_rfl) (fun w' hC => by first | rfl | go_simp) ?_
  simp only [Act.put, List.setIfInBounds_toArray, List.set_cons_zero, List.set_cons_succ, List.getElem_toArray, List.getElem_cons_zero, List.getElem_cons_succ]
  refine wpQuiet_runG (v := .int .i64 6) (by kernel_rfl) (fun w' hC => by first | rfl | go_simp) ?_
  simp only [Act.put, List.setIfInBounds_toArray, List.set_cons_zero, List.set_cons_succ, List.getElem_toArray, List.getElem_cons_zero, List.getElem_cons_succ]
  refine wpQuiet_runG (v := .bool true) (by kernel_rfl) (fun w' hC => by first | rfl | go_simp) ?_
  simp only [Act.put, List.setIfInBounds_toArray, List.set_cons_zero, List.set_cons_succ, List.getElem_toArray, List.getElem_cons_zero, List.getElem_cons_succ]
  refine wpQuiet_runG (v := .bool true) (by kernel_rfl) (fun w' hC => by first | rfl | go_simp) ?_
  simp only [Act.put, List.setIfInBounds_toArray, List.set_cons_zero, List.set_cons_succ, List.getElem_toArray, List.getElem_cons_zero, List.getElem_cons_succ]
  refine wpQuiet_runG (v := .bool true) (by kernel_rfl) (fun w' hC => by first | rfl | go_simp) ?_
  simp only [Act.put, List.setIfInBounds_toArray, List.set_cons_zero, List.set_cons_succ, List.getElem_toArray, List.getElem_cons_zero, List.getElem_cons_succ]
  refine wpQuiet_runG (v := .bool false) (by kernel_rfl) (fun w' hC => by first | rfl | go_simp) ?_
  simp only [Act.put, List.setIfInBounds_toArray, List.set_cons_zero, List.set_cons_succ, List.getElem_toArray, List.getElem_cons_zero, List.getElem_cons_succ]
  refine wpQuiet_runG (v := .bool true) (by kernel_rfl) (fun w' hC => by first | rfl | go_simp) ?_
  simp only [Act.put, List.setIfInBounds_toArray, List.set_cons_zero, List.set_cons_succ, List.getElem_toArray, List.getElem_cons_zero, List.getElem_cons_succ]
  refine wpQuiet_runG (v := .bool true) (by kernel_rfl) (fun w' hC => by first | rfl | go_simp) ?_
  simp only [Act.put, List.setIfInBounds_toArray, List.set_cons_zero, List.set_cons_succ, List.getElem_toArray, List.getElem_cons_zero, List.getElem_cons_succ]
  refine wpQuiet_runG (v := .bool true) (by kernel_rfl) (fun w' hC => by first | rfl | go_simp) ?_
  simp only [Act.put, List.setIfInBounds_toArray, List.set_cons_zero, List.set_cons_succ, List.getElem_toArray, List.getElem_cons_zero, List.getElem_cons_succ]
  refine wpQuiet_runG (v := .bool true) (by kernel_rfl) (fun w' hC => by first | rfl | go_simp) ?_
  simp only [Act.put, List.setIfInBounds_toArray, List.set_cons_zero, List.set_cons_succ, List.getElem_toArray, List.getElem_cons_zero, List.getElem_cons_succ]
  refine wpQuiet_runG (v := .bool true) (by kernel_rfl) (fun w' hC => by first | rfl | go_simp) ?_
  simp only [Act.put, List.setIfInBounds_toArray, List.set_cons_zero, List.set_cons_succ, List.getElem_toArray, List.getElem_cons_zero, List.getElem_cons_succ]
  refine wpQuiet_runG (v := .bool true) (by kernel_rfl) (fun w' hC => by first | rfl | go_simp) ?_
  simp only [Act.put, List.setIfInBounds_toArray, List.set_cons_zero, List.set_cons_succ, List.getElem_toArray, List.getElem_cons_zero, List.getElem_cons_succ]
  refine wpQuiet_runG (v := .int .i64 12) (by kernel_rfl) (fun w' hC => by first | rfl | go_simp) ?_
  simp only [Act.put, List.setIfInBounds_toArray, List.set_cons_zero, List.set_cons_succ, List.getElem_toArray, List.getElem_cons_zero, List.getElem_cons_succ]
  refine wpQuiet_runG (v := .bool true) (by kernel_rfl) (fun w' hC => by first | rfl | go_simp) ?_
  simp only [Act.put, List.setIfInBounds_toArray, List.set_cons_zero, List.set_cons_succ, List.getElem_toArray, List.getElem_cons_zero, List.getElem_cons_succ]
  refine wpQuiet_runG (v := .bool true) (by kernel_rfl) (fun w' hC => by first | rfl | go_simp) ?_
  simp only [Act.put, List.setIfInBounds_toArray, List.set_cons_zero, List.set_cons_succ, List.getElem_toArray, List.getElem_cons_zero, List.getElem_cons_succ]
  refine wpQuiet_runG (v := .bool true) (by kernel_rfl) (fun w' hC => by first | rfl | go_simp) ?_
  simp only [Act.put, List.setIfInBounds_toArray, List.set_cons_zero, List.set_cons_succ, List.getElem_toArray, List.getElem_cons_zero, List.getElem_cons_succ]
  refine wpQuiet_callG (f := 12) (xs := #[.const (.int .i64 0)]) #[.int .i64 0] (pol 1 0 1 0 0) (by kernel_rfl) rfl Try.func12 (by kernel_rfl) (by kernel_rfl) (by simp [Act.eval]) (fun W hW => (QZ.out W).mono fun e w' h => ⟨h.1, Below.trans hW (h.2.mono hW.size)⟩) ?_
  simp only [Act.put, List.setIfInBounds_toArray, List.set_cons_zero, List.set_cons_succ, List.getElem_toArray, List.getElem_cons_zero, List.getElem_cons_succ]
  refine wpQuiet_runG (v := .agg #[.int .i64 1, .int .i64 0, .int .i64 1, .int .i64 0, .int .i64 0]) (by kernel_rfl) (fun w' hC => by go_simp) ?_
  simp only [Act.put, List.setIfInBounds_toArray, List.set_cons_zero, List.set_cons_succ, List.getElem_toArray, List.getElem_cons_zero, List.getElem_cons_succ]
  refine wpQuiet_runG (v := .bool true) (by kernel_rfl) (fun w' hC => by exact exec_pol rfl 1 0 1 0 0 rfl rfl w') ?_
  simp only [Act.put, List.setIfInBounds_toArray, List.set_cons_zero, List.set_cons_succ, List.getElem_toArray, List.getElem_cons_zero, List.getElem_cons_succ]
  refine wpQuiet_runG (v := .bool true) (by kernel_rfl) (fun w' hC => by first | rfl | go_simp) ?_
  simp only [Act.put, List.setIfInBounds_toArray, List.set_cons_zero, List.set_cons_succ, List.getElem_toArray, List.getElem_cons_zero, List.getElem_cons_succ]
  refine wpQuiet_runG (v := .bool true) (by kernel_rfl) (fun w' hC => by first | rfl | go_simp) ?_
  simp only [Act.put, List.setIfInBounds_toArray, List.set_cons_zero, List.set_cons_succ, List.getElem_toArray, List.getElem_cons_zero, List.getElem_cons_succ]
  refine wpQuiet_runG (v := .bool true) (by kernel_rfl) (fun w' hC => by first | rfl | go_simp) ?_
  simp only [Act.put, List.setIfInBounds_toArray, List.set_cons_zero, List.set_cons_succ, List.getElem_toArray, List.getElem_cons_zero, List.getElem_cons_succ]
  refine wpQuiet_runG (v := .bool true) (by kernel_rfl) (fun w' hC => by first | rfl | go_simp) ?_
  simp only [Act.put, List.setIfInBounds_toArray, List.set_cons_zero, List.set_cons_succ, List.getElem_toArray, List.getElem_cons_zero, List.getElem_cons_succ]
  refine wpQuiet_runG (v := .bool true) (by kernel_rfl) (fun w' hC => by first | rfl | go_simp) ?_
  simp only [Act.put, List.setIfInBounds_toArray, List.set_cons_zero, List.set_cons_succ, List.getElem_toArray, List.getElem_cons_zero, List.getElem_cons_succ]
  refine wpQuiet_runG (v := .bool true) (by kernel_rfl) (fun w' hC => by first | rfl | go_simp) ?_
  simp only [Act.put, List.setIfInBounds_toArray, List.set_cons_zero, List.set_cons_succ, List.getElem_toArray, List.getElem_cons_zero, List.getElem_cons_succ]
  refine wpQuiet_runG (v := .bool true) (by kernel_rfl) (fun w' hC => by first | rfl | go_simp) ?_
  simp only [Act.put, List.setIfInBounds_toArray, List.set_cons_zero, List.set_cons_succ, List.getElem_toArray, List.getElem_cons_zero, List.getElem_cons_succ]
  refine wpQuiet_runG (v := .bool true) (by kernel_rfl) (fun w' hC => by first | rfl | go_simp) ?_
  simp only [Act.put, List.setIfInBounds_toArray, List.set_cons_zero, List.set_cons_succ, List.getElem_toArray, List.getElem_cons_zero, List.getElem_cons_succ]
  refine wpQuiet_runG (v := .bool true) (by kernel_rfl) (fun w' hC => by first | rfl | go_simp) ?_
  simp only [Act.put, List.setIfInBounds_toArray, List.set_cons_zero, List.set_cons_succ, List.getElem_toArray, List.getElem_cons_zero, List.getElem_cons_succ]
  refine wpQuiet_runG (v := .bool true) (by kernel_rfl) (fun w' hC => by first | rfl | go_simp) ?_
  simp only [Act.put, List.setIfInBounds_toArray, List.set_cons_zero, List.set_cons_succ, List.getElem_toArray, List.getElem_cons_zero, List.getElem_cons_succ]
  refine wpQuiet_runG (v := .bool true) (by kernel_rfl) (fun w' hC => by first | rfl | go_simp) ?_
  simp only [Act.put, List.setIfInBounds_toArray, List.set_cons_zero, List.set_cons_succ, List.getElem_toArray, List.getElem_cons_zero, List.getElem_cons_succ]
  refine wpQuiet_runG (v := .bool true) (by kernel_rfl) (fun w' hC => by first | rfl | go_simp) ?_
  simp only [Act.put, List.setIfInBounds_toArray, List.set_cons_zero, List.set_cons_succ, List.getElem_toArray, List.getElem_cons_zero, List.getElem_cons_succ]
  refine wpQuiet_nil ?_
  intro wz hz
  go_wp2_with fail
  go_ret
  exact ⟨rfl, B1.out.trans (hz.mono B1.out.size)⟩
end Go.Proofs.Ytogkjiiemflglaa
