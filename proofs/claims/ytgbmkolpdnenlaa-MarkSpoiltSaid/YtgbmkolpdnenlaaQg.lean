/- The quiet walk in a class of worlds, with guarded operations; an append of numbers onto an empty slice. -/
import Derived.Test.YtgbmkolpdnenlaaQc
import Derived.Test.YtgbmkolpdnenlaaTr
import Derived.Test.YtgbmkolpdnenlaaUe
namespace Go.Proofs.Ytgbmkolpdnenlaa.Dk
open Go Go.RowKit
set_option linter.unusedVariables false
set_option linter.unusedSimpArgs false
section
variable {P : Program} {ops : Array Oper} {C : World → Prop} {Q : Act → Prop}
theorem wpQuiet_runG {o : Oper} {rest : List Oper} {a : Act} {v : Value} (hw : Region.wanted o (yielded ops a.tmps) = true) (hr : ∀ w, C w → (execOp a.eval o).run P w = .ok (.value v) w) (h : wpQuiet P ops C Q rest (a.put o.dst v)) : wpQuiet P ops C Q (o :: rest) a := by
  unfold wpQuiet
  rw [if_pos hw]
  exact ⟨v, fun w hC => by unfold Oper.quietAt; rw [hr w hC]; exact ⟨rfl, rfl⟩, h⟩
theorem wpQuiet_loadG {o : Oper} {rest : List Oper} {a : Act} (hw : Region.wanted o (yielded ops a.tmps) = true) (ty : TypeId) (x : Operand) (ho : o.op = .load ty x) (p : Addr) (hx : a.eval x = .pointer (some p)) (cs : List Value) (d : TypeDesc)
    (hC : ∀ w, C w → ∀ j v, cs[j]? = some v → w.cell? (p.add j) = some v) (hu : P.underlying ty = some d) (hd : d.isRow = true) (hi : (P.info? ty).map (·.size) = some cs.length) (h : wpQuiet P ops C Q rest (a.put o.dst (.agg cs.toArray))) : wpQuiet P ops C Q (o :: rest) a :=
  wpQuiet_runG hw (fun w hw => by
    unfold execOp
    simp only [ho, hx, Instr.loadAt, Instr.sureAddr, Sem.run_bind, Sem.run_pure, Result.andThen_ok, run_loadVar_all w p ty cs d (hC w hw) hu hd hi]) h
theorem wpQuiet_callG {o : Oper} {rest : List Oper} {a : Act} {f : FuncId} {fn : Func} {xs : Array Operand} {ats : Array TypeId} (args : Array Value) (v : Value) (hw : Region.wanted o (yielded ops a.tmps) = true)
    (hop : o.op = .call { callee := .value (.func f), args := xs, argTypes := ats }) (hf : P.funcs[f]? = some fn) (hname : (fn.name == "runtime.NumGoroutine") = false) (hb : fn.body.isNone = false) (ha : xs.map a.eval = args)
    (hc : ∀ w, C w → Calls P f args w fun e w' => e = .returned v ∧ C w') (h : wpQuiet P ops C Q rest (a.put o.dst v)) : wpQuiet P ops C Q (o :: rest) a := by
  unfold wpQuiet
  rw [if_pos hw]
  exact ⟨v, fun w hC => by unfold Oper.quietAt; rw [run_call_go hop hf hname hb ha]; exact ⟨rfl, hc w hC⟩, h⟩
end
theorem u64s_src {w : World} {ao : Option Addr} {c : Nat} {ws : List Nat} (h : U64s w (.slice ao ws.length c) ws) : Src Try.prog 1 29 (.slice ao ws.length c) ws.length (ws.map uv) w := by
  obtain ⟨ao', c', e, hno, hc⟩ := h
  cases e
  exact Src.any w Try.underlying29 ao ws.length c (ws.map uv) (by simp) hno hc (uv_one ws)
theorem grew_u64s {w w' : World} {ad : Addr} {v' : Value} {ws : List Nat} {base : Nat} (h : GrewFull w w' base 28 1 (.slice (some ad) 0 0) v' 0 ws.length ([] ++ ws.map uv)) :
    ∃ ao c, v' = .slice ao ws.length c ∧ U64s w' (.slice ao ws.length c) ws ∧ Below w.heap.size w w' ∧ (0 < ws.length → ∀ ad, ao = some ad → w.heap.size ≤ ad.block) := by
  rcases h with ⟨h0, rfl, rfl⟩ | ⟨h0, hrow, hg, hob⟩
  · obtain rfl := List.eq_nil_of_length_eq_zero h0
    exact ⟨some ad, 0, rfl, ⟨_, _, rfl, (fun _ => rfl), fun ad e j u hu => by simp at hu⟩, Below.refl _ _, fun h => by simp at h⟩
  · rw [List.nil_append, Nat.zero_add] at hrow
    have hb : Below w.heap.size w w' := (Frm.refl (fun _ => False) w).grown hg (by intro j e; cases e) |>.below (fun _ _ h => h.elim) (Nat.le_refl _)
    rcases hrow.2 with ⟨_, e⟩ | ⟨g, cap, cur, rfl, hbb, hh, h1, h2, h3, h4⟩
    · omega
    · refine ⟨_, cap, rfl, ⟨_, _, rfl, (fun e => by cases e), fun ad' e j u hu => ?_⟩, hb, fun _ ad' e => ?_⟩
      rotate_left 1
      · cases e
        have : g = w.heap.size := by simpa [Value.ownBlock] using hob
        show w.heap.size ≤ g
        omega
      cases e
      have hj : j < ws.length := by have := (List.getElem?_eq_some_iff.1 hu).1; simpa using this
      rw [Addr.add_mid, cell_of_row w' g (0 + j) _ _ _ hh, Nat.zero_add, ← Array.getElem?_toList]
      have h5 : (cur.toList.take (ws.length * 1))[j]? = (ws.map uv)[j]? := by rw [h4]
      rw [List.getElem?_take, if_pos (by omega)] at h5
      rw [h5]
      exact hu
theorem U64s.setRow {w : World} {ao : Option Addr} {c k : Nat} {ws : List Nat} (h : U64s w (.slice ao ws.length c) ws) (hk : 0 < ws.length → ∀ ad, ao = some ad → k < ad.block) (cs : Array Value) : U64s (w.setRow k cs) (.slice ao ws.length c) ws := by
  obtain ⟨ao', c', e, hno, hc⟩ := h
  cases e
  refine ⟨ao, c, rfl, hno, fun ad e j u hu => ?_⟩
  have h0 : 0 < ws.length := by have := (List.getElem?_eq_some_iff.1 hu).1; simp at this; omega
  have h1 := hk h0 ad e
  have hb : (ad.add j).block = ad.block := by first | rfl | (unfold Addr.add; split <;> rfl) | simp [Addr.add]
  exact (World.cell?_of_block (a := ad.add j) (setRow_other w k (ad.add j).block cs (by omega))).trans (hc ad e j u hu)
end Go.Proofs.Ytgbmkolpdnenlaa.Dk
