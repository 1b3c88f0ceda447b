/- A slice of operations on a queue that came in. -/
import Derived.Test.YtkmhbbcppjckiaaNO
import Derived.Test.YtkmhbbcppjckiaaK0H
import Derived.Deep.Slices
namespace Go.Proofs.Ytkmhbbcppjckiaa.Qu
open Go Go.Proofs.Ytkmhbbcppjckiaa Go.RowKit Go.ChangeShapes Go.WideShapes Go.ChangeAt Go.Deep
open Go.Proofs.Ytkmhbbcppjckiaa.Hp (i64wf K3 wf3)
set_option linter.unusedVariables false
set_option linter.unusedSimpArgs false
set_option maxRecDepth 100000
structure OpQ where
  kind : Int
  key : K3
  now : Int
instance : Inhabited OpQ := ⟨⟨0, (0, 0, 0), 0⟩⟩
def OpQ.cells (p : OpQ) : List Value := [.int .i64 p.kind, .int .i64 p.key.1, .int .i64 p.key.2.1, .int .i64 p.key.2.2, .int .i64 p.now]
def OpQ.Good (p : OpQ) : Prop := i64wf p.kind ∧ wf3 p.key ∧ i64wf p.now
/-- Operations in a slice that came in. -/
structure OpsQ (w : World) (ao : Option Addr) (L : List OpQ) : Prop where
  none : ao = none → L = []
  cell : ∀ ad, ao = some ad → ∀ (j : Nat) p, L[j]? = some p → ∀ (i : Nat) u, p.cells[i]? = some u → w.cell? (ad.add (j * 5 + i)) = some u
  good : ∀ p ∈ L, p.Good
theorem OpsQ.below {w w' : World} {ao : Option Addr} {L : List OpQ} {B : Nat} (h : OpsQ w ao L) (hb : Below B w w') (hB : w.heap.size ≤ B) : OpsQ w' ao L :=
  ⟨h.none, fun ad ha j p hp i u hu => by
    have hc := h.cell ad ha j p hp i u hu
    rw [hb.cell (Nat.lt_of_lt_of_le (World.block_lt_of_cell? w _ hc) hB)]
    exact hc, h.good⟩
theorem trod_struct3Q {H : Type} {enc : TypeId × Value → H} {P : Program} {w : World} {base : Nat} {spare : Nat → Bool} {held : Bool} {t : TypeId} {f0 f1 f2 : Field} {fuel : Nat} {cs : List Value} {x : DataW H × List MemPlace} (ht : P.underlying t = some (.struct #[f0, f1, f2])) (h : DataW.trod enc P w base spare held fuel t cs = some x) :
    ∃ y0 y1 y2 n, cs.length = P.cellsOf t ∧ DataW.trod enc P w base spare held n f0.type ((cs.drop f0.offset).take (P.cellsOf f0.type)) = some y0 ∧ DataW.trod enc P w base spare held n f1.type ((cs.drop f1.offset).take (P.cellsOf f1.type)) = some y1 ∧ DataW.trod enc P w base spare held n f2.type ((cs.drop f2.offset).take (P.cellsOf f2.type)) = some y2 := by
  obtain ⟨xs, n, _, rfl, hl, hlen, hf⟩ := DataW.trod_struct ht h
  match xs, hlen with
  | [y0, y1, y2], _ => exact ⟨y0, y1, y2, n, hl, by simpa using hf 0 f0 rfl, by simpa using hf 1 f1 rfl, by simpa using hf 2 f2 rfl⟩
theorem cQ_task : Try.prog.cellsOf 32 = 3 := by kernel_rfl
theorem cQ_int : Try.prog.cellsOf 3 = 1 := by kernel_rfl
theorem cQ_i64 : Try.prog.cellsOf 2 = 1 := by kernel_rfl
theorem nth1 {cs : List Value} {k : Nat} {v : Value} (h : (cs.drop k).take 1 = [v]) : cs[k]? = some v := by
  have := congrArg (fun l => l[0]?) h
  simpa [List.getElem?_take, List.getElem?_drop] using this
theorem trod_task {H : Type} {enc : TypeId × Value → H} {W : World} {fuel : Nat} {cs : List Value} {x : DataW H × List MemPlace} (h : DataW.trod enc Try.prog W 0 (fun _ => true) true fuel 32 cs = some x) :
    ∃ k : K3, cs = kcs k ∧ wf3 k := by
  obtain ⟨y0, y1, y2, n, hl, h0, h1, h2⟩ := trod_struct3Q Try.underlying32 h
  simp only [cQ_task, cQ_int, cQ_i64] at hl h0 h1 h2
  obtain ⟨a, e0, _, w0⟩ := DataW.trod_int Try.underlying3 h0
  obtain ⟨b, e1, _, w1⟩ := DataW.trod_int Try.underlying3 h1
  obtain ⟨c, e2, _, w2⟩ := DataW.trod_int Try.underlying2 h2
  refine ⟨(a, b, c), ?_, w0, w1, w2⟩
  have g0 := nth1 e0
  have g1 := nth1 e1
  have g2 := nth1 e2
  match cs, hl with
  | [v0, v1, v2], hl =>
    simp at g0 g1 g2
    rw [g0, g1, g2]
    rfl
theorem cQ_op : Try.prog.cellsOf 34 = 5 := by kernel_rfl
theorem trod_opq {H : Type} {enc : TypeId × Value → H} {W : World} {fuel : Nat} {cs : List Value} {x : DataW H × List MemPlace} (h : DataW.trod enc Try.prog W 0 (fun _ => true) true fuel 34 cs = some x) :
    ∃ p : OpQ, cs = p.cells ∧ p.Good := by
  obtain ⟨y0, y1, y2, n, hl, h0, h1, h2⟩ := trod_struct3Q Try.underlying34 h
  simp only [cQ_op, cQ_int, cQ_i64, cQ_task] at hl h0 h1 h2
  obtain ⟨a, e0, _, w0⟩ := DataW.trod_int Try.underlying3 h0
  obtain ⟨k, e1, wk⟩ := trod_task h1
  obtain ⟨c, e2, _, w2⟩ := DataW.trod_int Try.underlying2 h2
  refine ⟨⟨a, k, c⟩, ?_, w0, wk, w2⟩
  have g0 := nth1 e0
  have g2 := nth1 e2
  match cs, hl with
  | [v0, v1, v2, v3, v4], hl =>
    simp [kcs] at g0 g2 e1
    obtain ⟨r1, r2, r3⟩ := e1
    rw [g0, g2, r1, r2, r3]
    rfl
theorem open_opq {H : Type} {enc : TypeId × Value → H} {W : World} {base : Nat} {v : Value} {d : DataW H} {p : List MemPlace} (hv : Value.okWide Try.prog W .any base 22 v) (h : DataW.Trod enc Try.prog W 0 (fun _ => true) true 22 v d p) : ∃ ao c L, v = .slice ao (List.length L) c ∧ OpsQ W ao L ∧ L.length ≤ maxLen := by
  obtain ⟨a0, len, cap, rfl⟩ := okWide_slice Try.underlying22 hv
  obtain ⟨fuel, hf⟩ := h
  rcases open_slice Try.underlying22 hf with ⟨hcs, hx⟩ | ⟨a, len', cap', m, n, D, Pl, hcs, _, hl, hm, hmm, hx, hr⟩
  · simp only [Value.cells] at hcs
    injection hcs with hcs
    rw [hcs]
    exact ⟨none, 0, [], rfl, ⟨fun _ => rfl, (by intro a e; cases e), (by intro p hp; cases hp)⟩, Nat.zero_le _⟩
  · simp only [Value.cells] at hcs
    injection hcs with hcs
    rw [hcs]
    simp only [if_true] at hmm
    have each : ∀ i, i < len' → ∃ p : OpQ, (∀ k u, p.cells[k]? = some u → W.cell? (a.add (i * 5 + k)) = some u) ∧ p.Good := by
      intro i hi
      obtain ⟨cs', h1, h2⟩ := hr i (by omega)
      rw [cQ_op] at h1
      obtain ⟨p, rfl, hg⟩ := trod_opq h2
      refine ⟨p, fun k u hk => ?_, hg⟩
      obtain ⟨_, hlen, hcell⟩ := World.cells?_some h1
      have hk' : k < 5 := (List.getElem?_eq_some_iff.1 hk).1
      have := hcell k hk'
      rw [add_add] at this
      rw [this, hk]
    obtain ⟨q, hq⟩ := choose_lt each
    refine ⟨some a, cap', (List.range len').map q, by simp, ⟨(by intro e; cases e), fun a' ha j p hj k u hk => ?_, fun p hp => ?_⟩, by simp; omega⟩
    · cases ha
      have hjl : j < len' := by simpa using (List.getElem?_eq_some_iff.1 hj).1
      obtain rfl : q j = p := by simpa [hjl] using hj
      exact (hq j hjl).1 k u hk
    · obtain ⟨j, hj, rfl⟩ := List.mem_map.1 hp
      exact (hq j (List.mem_range.1 hj)).2
end Go.Proofs.Ytkmhbbcppjckiaa.Qu
