/- What WireWrites writes, part by part; loads and stores of whole structs. -/
import Derived.Test.YtcjnfmlpjolfpaaZn
import Derived.Test.YtcjnfmlpjolfpaaPr
import Derived.Test.YtcjnfmlpjolfpaaNf
import Derived.Test.YtcjnfmlpjolfpaaWf
import Derived.Test.YtcjnfmlpjolfpaaWs
import Derived.Test.YtcjnfmlpjolfpaaFw
import Derived.Lib.Hide
namespace Go.Proofs.Ytcjnfmlpjolfpaa
open Go Go.RowKit Go.Deep
set_option linter.unusedVariables false
set_option linter.unusedSimpArgs false
set_option linter.unnecessarySimpa false
section
variable {P : Program}
theorem run_loadVar_allW (w : World) (a : Addr) (ty : TypeId) (cs : List Value) (d : TypeDesc) (hc : ∀ j v, cs[j]? = some v → w.cell? (a.add j) = some v)
    (hu : P.underlying ty = some d) (hd : d.isRow = true) (hi : (P.info? ty).map (·.size) = some cs.length) :
    (loadVar ty a).run P w = .ok (.agg cs.toArray) w := by
  have hl : (loadCells a cs.length).run P w = .ok cs.toArray w := run_loadCells_list (P := P) w a cs hc
  cases hq : P.info? ty with
  | none => simp [hq] at hi
  | some i =>
    have hs : i.size = cs.length := by simpa [hq] using hi
    have hagg : (isAgg ty).run P w = .ok true w := by
      unfold isAgg
      rw [Sem.run_bind, run_underlying hu w]
      cases d <;> simp_all
    simp [loadVar, Sem.run_bind, hagg, sizeOf, typeInfo, hq, hs, hl]
theorem wpList_load_allW {ops : Array Oper} {rest : List Oper} {op : Oper} {a : Act} {w : World} {Q : Exit → Act → World → Prop} (hgd : op.guard = none) (ty : TypeId) (x : Operand) (ho : op.op = .load ty x)
    (p : Addr) (hx : a.eval x = .pointer (some p)) (cs : List Value) (d : TypeDesc) (hc : ∀ j v, cs[j]? = some v → w.cell? (p.add j) = some v)
    (hu : P.underlying ty = some d) (hd : d.isRow = true) (hi : (P.info? ty).map (·.size) = some cs.length)
    (h : wpList P ops Q rest (a.put op.dst (.agg cs.toArray)) w) : wpList P ops Q (op :: rest) a w :=
  wpList_plain hgd fun _ hK => by
    unfold Oper.wp execOp
    simp only [ho, hx, Instr.loadAt, Instr.sureAddr, Sem.run_bind, Sem.run_pure, Result.andThen_ok, run_loadVar_allW w p ty cs d hc hu hd hi]
    exact hK _ _ h
theorem alloc_setRowW (w : World) (old cells : Array Value) (t : TypeId) : (w.alloc (.cells old t)).setRow w.heap.size cells = w.alloc (.cells cells t) := by
  unfold World.setRow World.alloc
  congr 1
  apply Array.ext_getElem?
  intro i
  rw [Array.getElem?_modify]
  simp only [Array.getElem?_push]
  by_cases hi : i = w.heap.size
  · subst hi; simp
  · rw [if_neg (fun e => hi e.symm), if_neg hi, if_neg hi]
theorem wpList_store_newW {ops : Array Oper} {rest : List Oper} {op : Oper} {a : Act} {w : World} {Q : Exit → Act → World → Prop} (hgd : op.guard = none) (ty : TypeId) (x y : Operand) (ho : op.op = .store ty x y)
    (t : TypeId) (old cells : Array Value) (hx : a.eval x = .pointer (some ⟨w.heap.size, 0, none⟩)) (hy : a.eval y = .agg cells)
    (hi : (P.info? ty).map (·.size) = some cells.size) (hs : old.size = cells.size) (h1 : cells.all (·.oneCell') = true)
    (h : wpList P ops Q rest (a.put op.dst undef) (w.alloc (.cells cells t))) : wpList P ops Q (op :: rest) a (w.alloc (.cells old t)) :=
  wpList_store_whole hgd ty x y ho w.heap.size t old cells hx hy (heap_alloc_new w _) hi hs h1 (by rw [alloc_setRowW]; exact h)
end
theorem Try.partSize {p : PartD} {w : World} (h : p.Good w) : (Try.prog.info? 31).map (·.size) = some p.cells.length := by rw [PartD.cells_length h]; kernel_rfl
theorem PartD.cells_one (p : PartD) : p.cells.toArray.all (·.oneCell') = true := all_oneCell_toArray (by
  intro u hu
  unfold PartD.cells at hu
  rcases List.mem_append.1 hu with h | h
  · simp only [List.mem_cons, List.not_mem_nil, or_false] at h
    rcases h with rfl | rfl | rfl | rfl <;> rfl
  · exact bvs_one _ u h)
/-- The number that a conversion to int64 leaves. -/
def i64of (n : Int) : Int := wrap64 n
theorem i64of_le (n : Int) : -9223372036854775808 ≤ i64of n ∧ i64of n ≤ 9223372036854775807 := by unfold i64of wrap64; omega
/-- A part's bytes. -/
def encP (p : PartD) : List UInt8 :=
  if p.kind = 0 then p.data else if p.kind = 1 then enc p.n.toNat else if p.kind = 2 then enc (zig (i64of p.n)) else if p.kind = 3 then leTo (p.n.toNat % 4294967296) 4 else
  if p.kind = 4 then enc p.data.length ++ p.data else if p.kind = 5 then p.sum else []
theorem encP_len {w : World} {p : PartD} (h : p.Good w) (hd : p.data.length ≤ 500) : (encP p).length ≤ 520 := by
  unfold encP
  have h1 := enc_length p.n.toNat
  have h2 := enc_length (zig (i64of p.n))
  have h3 := enc_length p.data.length
  have h4 := h.sum
  split
  · omega
  · split
    · omega
    · split
      · omega
      · split
        · rw [leTo_length]; omega
        · split
          · rw [List.length_append]; omega
          · split
            · omega
            · simp
def encAll (L : List PartD) : List UInt8 := (L.map encP).flatten
theorem encAll_nil : encAll [] = [] := rfl
theorem encAll_succ {L : List PartD} {k : Nat} (h : k < L.length) : encAll (L.take (k + 1)) = encAll (L.take k) ++ encP (L.getD k default) := by
  unfold encAll
  rw [List.take_add_one, List.getElem?_eq_getElem h, List.map_append, List.flatten_append]
  simp [List.getD, h]
theorem encAll_drop {L : List PartD} {k : Nat} (h : k < L.length) : (encAll L).drop (encAll (L.take k)).length = encP (L.getD k default) ++ encAll (L.drop (k + 1)) := by
  have e : encAll L = encAll (L.take k) ++ (encP (L.getD k default) ++ encAll (L.drop (k + 1))) := by
    have h1 : L = L.take k ++ (L.getD k default :: L.drop (k + 1)) := by
      have := List.take_append_drop k L
      rw [List.drop_eq_getElem_cons h] at this
      simpa [List.getD, h] using this.symm
    have h2 : encAll L = encAll (L.take k ++ (L.getD k default :: L.drop (k + 1))) := congrArg encAll h1
    rw [h2]
    simp [encAll]
  rw [e, List.drop_left]
/-- What is written so far. -/
def W1c (w0 : World) (b : Nat) (Y : List UInt8) (s : Value) (wx : World) : Prop := ∃ r', s = .string (str Y) ∧ Wr wx b r' Y ∧ (∀ g, r' = some g → w0.heap.size ≤ g) ∧ Below w0.heap.size w0 wx
def WwRel (w0 : World) (b : Nat) (L : List PartD) (s u : Value) (wr : World) : Prop :=
  ∃ k : Nat, u = .int .i64 (k : Int) ∧ k ≤ L.length ∧ W1c w0 b (encAll (L.take k)) s wr ∧ (encAll (L.take k)).length ≤ 520 * k ∧ ∀ j, j < k → (L.getD j default).data.length ≤ 500
theorem Prts.at {w : World} {ao : Option Addr} {c : Nat} {L : List PartD} (h : Prts w (.slice ao L.length c) L) {k : Nat} (hk : k < L.length) : ∃ a, ao = some a ∧ (∀ i u, (L.getD k default).cells[i]? = some u → w.cell? ((a.add (k * 36)).add i) = some u) ∧ (L.getD k default).Good w := by
  obtain ⟨ao', c', e, hno, hc, hg⟩ := h
  injection e with e1 e2 e3
  subst e1
  have hL : L.getD k default = L[k] := by simp [List.getD, hk]
  cases ao with
  | none => rw [hno rfl] at hk; simp at hk
  | some a =>
    refine ⟨a, rfl, fun i u hu => ?_, by rw [hL]; exact hg _ (List.getElem_mem hk)⟩
    have h1 := hc a rfl k _ (by rw [hL]; exact List.getElem?_eq_getElem hk) i u hu
    have e2 : (a.add (k * 36)).add i = a.add (k * 36 + i) := by
      unfold Addr.add
      split <;> split <;> simp_all <;> omega
    rw [e2]
    exact h1
theorem fr_row {w w' : World} {b k : Nat} {r : Option Nat} {x : Obj} (hF : Fr w w' b r) (h : w.heap[k]? = some x) (h1 : k ≠ b) (h2 : r ≠ some k) : w'.heap[k]? = some x := (hF.block k (lt_of_rowW h) h1 (fun e => h2 e.symm)).trans h
end Go.Proofs.Ytcjnfmlpjolfpaa
