/- Notes (foliottop.Note) that came in. -/
import Derived.Test.YtgbmkolpdnenlaaDj
import Derived.Lib.SmallJoins
namespace Go.Proofs.Ytgbmkolpdnenlaa.Dk
open Go Go.RowKit Go.ChangeShapes Go.WideShapes Go.ChangeAt Go.Deep Go.Joins
set_option linter.unusedVariables false
set_option linter.unusedSimpArgs false
structure NoD where
  n : Int
  fuse : Int
  at_ : Int
  keep : Bool
instance : Inhabited NoD := ⟨⟨0, 0, 0, false⟩⟩
def NoD.cells (p : NoD) : List Value := [.int .u64 p.n, .int .i64 p.fuse, .int .i64 p.at_, .bool p.keep]
structure NoD.Good (p : NoD) : Prop where
  n : (Lit.int .u64 p.n).wf = true
  fuse : wfi p.fuse
  at_ : wfi p.at_
def Notes (w : World) (v : Value) (L : List NoD) : Prop :=
  ∃ ao c, v = .slice ao L.length c ∧ (ao = none → L = []) ∧ (∀ a, ao = some a → ∀ j p, L[j]? = some p → ∀ i u, p.cells[i]? = some u → w.cell? (a.add (j * 4 + i)) = some u) ∧ ∀ p ∈ L, p.Good
theorem NoD.cells_length (p : NoD) : p.cells.length = 4 := rfl
theorem Notes.below {w w' : World} {v : Value} {L : List NoD} {B : Nat} (h : Notes w v L) (hb : Below B w w') (hs : w.heap.size ≤ B) : Notes w' v L := by
  obtain ⟨ao, c, rfl, hno, hc, hg⟩ := h
  refine ⟨ao, c, rfl, hno, fun a ha j p hp i u hu => ?_, hg⟩
  have := hc a ha j p hp i u hu
  rw [hb.cell (Nat.lt_of_lt_of_le (World.block_lt_of_cell? w _ this) hs)]
  exact this
theorem cP_note : Try.prog.cellsOf 64 = 4 := by kernel_rfl
theorem cP_u64 : Try.prog.cellsOf 28 = 1 := by kernel_rfl
set_option maxRecDepth 100000 in
theorem trod_note {H : Type} {enc : TypeId × Value → H} {W : World} {fuel : Nat} {cs : List Value} {x : DataW H × List MemPlace} (h : DataW.trod enc Try.prog W 0 (fun _ => true) true fuel 64 cs = some x) :
    ∃ p : NoD, cs = p.cells ∧ p.Good := by
  obtain ⟨y0, y1, y2, y3, n, _, hl, h0, h1, h2, h3⟩ := trod_struct4 Try.underlying64 h
  simp only [cP_note, cP_u64, cP_int, cP_bool] at hl h0 h1 h2 h3
  obtain ⟨k, e0, _, w0⟩ := DataW.trod_int Try.underlying28 h0
  obtain ⟨a, e1, _, w1⟩ := DataW.trod_int Try.underlying3 h1
  obtain ⟨b, e2, _, w2⟩ := DataW.trod_int Try.underlying3 h2
  obtain ⟨q, e3, _⟩ := DataW.trod_bool Try.underlying4 h3
  refine ⟨⟨k, a, b, q⟩, ?_, ⟨w0, w1, w2⟩⟩
  have g0 := list_nth_one e0
  have g1 := list_nth_one e1
  have g2 := list_nth_one e2
  have g3 := list_nth_one e3
  match cs, hl with
  | [v0, v1, v2, v3], hl =>
    simp at g0 g1 g2 g3
    rw [g0, g1, g2, g3]
    rfl
set_option maxRecDepth 100000 in
theorem open_notes {H : Type} {enc : TypeId × Value → H} {W : World} {base : Nat} {v : Value} {d : DataW H} {p : List MemPlace} (hv : Value.okWide Try.prog W .any base 61 v) (h : DataW.Trod enc Try.prog W 0 (fun _ => true) true 61 v d p) : ∃ ao c L, v = .slice ao L.length c ∧ Notes W (.slice ao L.length c) L := by
  obtain ⟨a0, len, cap, rfl⟩ := okWide_slice Try.underlying61 hv
  obtain ⟨fuel, hf⟩ := h
  rcases open_slice Try.underlying61 hf with ⟨hcs, hx⟩ | ⟨a, len', cap', m, n, D, Pl, hcs, _, hl, hm, hmm, hx, hr⟩
  · simp only [Value.cells] at hcs
    injection hcs with hcs
    rw [hcs]
    exact ⟨none, 0, [], rfl, ⟨none, 0, rfl, fun _ => rfl, (by intro a e; cases e), (by intro p hp; cases hp)⟩⟩
  · simp only [Value.cells] at hcs
    injection hcs with hcs
    rw [hcs]
    simp only [if_true] at hmm
    have each : ∀ i, i < len' → ∃ p : NoD, (∀ k u, p.cells[k]? = some u → W.cell? (a.add (i * 4 + k)) = some u) ∧ p.Good := by
      intro i hi
      obtain ⟨cs', h1, h2⟩ := hr i (by omega)
      rw [cP_note] at h1
      obtain ⟨p, rfl, hg⟩ := trod_note h2
      refine ⟨p, fun k u hk => ?_, hg⟩
      obtain ⟨_, hlen, hcell⟩ := World.cells?_some h1
      have hk' : k < 4 := by
        have := (List.getElem?_eq_some_iff.1 hk).1
        rwa [p.cells_length] at this
      have := hcell k hk'
      rw [add_add] at this
      rw [this, hk]
    obtain ⟨q, hq⟩ := choose_lt each
    refine ⟨some a, cap', (List.range len').map q, by simp, ⟨some a, cap', rfl, (by intro e; cases e), fun a' ha j p hj k u hk => ?_, fun p hp => ?_⟩⟩
    · cases ha
      have hjl : j < len' := by simpa using (List.getElem?_eq_some_iff.1 hj).1
      obtain rfl : q j = p := by simpa [hjl] using hj
      exact (hq j hjl).1 k u hk
    · obtain ⟨j, hj, rfl⟩ := List.mem_map.1 hp
      exact (hq j (List.mem_range.1 hj)).2
theorem Try.noteSize (p : NoD) : (Try.prog.info? 64).map (·.size) = some p.cells.length := by rw [p.cells_length]; kernel_rfl
theorem NoD.cells_one (p : NoD) : p.cells.toArray.all (·.oneCell') = true := all_oneCell_toArray (by
  intro v hv
  simp only [NoD.cells, List.mem_cons, List.not_mem_nil, or_false] at hv
  rcases hv with rfl | rfl | rfl | rfl <;> rfl)
theorem Notes.at {w : World} {ao : Option Addr} {c : Nat} {L : List NoD} (h : Notes w (.slice ao L.length c) L) {j : Nat} (hj : j < L.length) : ∃ a, ao = some a ∧ (∀ i v, (L.getD j default).cells[i]? = some v → w.cell? ((a.add (j * 4)).add i) = some v) ∧ (L.getD j default).Good := by
  obtain ⟨ao', c', e, hno, hc, hg⟩ := h
  injection e with e1 e2 e3
  subst e1 e3
  have hL : L.getD j default = L[j] := by simp [List.getD, hj]
  cases ao with
  | none => rw [hno rfl] at hj; simp at hj
  | some a =>
    refine ⟨a, rfl, fun i v hv => ?_, by rw [hL]; exact hg _ (List.getElem_mem hj)⟩
    rw [add_add]
    exact hc a rfl j _ (by rw [hL]; exact List.getElem?_eq_getElem hj) i v hv
end Go.Proofs.Ytgbmkolpdnenlaa.Dk
