/- A slice of operations (foliotlaw05.Op) that came in: what of it the walks ask. -/
import Derived.Test.YthcliaaoadfegaaDo
import Derived.Deep.Slices
namespace Go.Proofs.Ythcliaaoadfegaa.Dk
open Go Go.RowKit Go.ChangeShapes Go.WideShapes Go.ChangeAt Go.Deep
set_option linter.unusedVariables false
set_option linter.unusedSimpArgs false

/-- Numbers in a slice. -/
def Nums (w : World) (v : Value) (L : List Int) : Prop := ∃ ao c, v = .slice ao L.length c ∧ (∀ j, j < L.length → ∃ a, ao = some a ∧ w.cell? (a.add j) = some (.int .i64 (L.getD j 0))) ∧ (∀ z ∈ L, wfi z)
/-- What an operation holds. -/
structure OpD where
  kind : Int
  n : Int
  at_ : Int
  x : Int
  raw : Bool
  ao : Option Addr
  cap : Nat
  data : List UInt8
  ko : Option Addr
  kcap : Nat
  keep : List Int
instance : Inhabited OpD := ⟨⟨0, 0, 0, 0, false, none, 0, [], none, 0, []⟩⟩
def OpD.cells (p : OpD) : List Value := [.int .i64 p.kind, .int .i64 p.n, .int .i64 p.at_, .int .u8 p.x, .bool p.raw, .slice p.ao p.data.length p.cap, .slice p.ko p.keep.length p.kcap]
structure OpD.Good (w : World) (p : OpD) : Prop where
  kind : wfi p.kind
  n : wfi p.n
  at_ : wfi p.at_
  x : 0 ≤ p.x ∧ p.x ≤ 255
  data : Sl w (.slice p.ao p.data.length p.cap) p.data
  len : p.data.length ≤ 9223372036854775807
  keep : Nums w (.slice p.ko p.keep.length p.kcap) p.keep
  klen : p.keep.length ≤ 9223372036854775807
/-- The slice: its cells, and each operation good. -/
def Ops (w : World) (v : Value) (L : List OpD) : Prop :=
  ∃ ao c, v = .slice ao L.length c ∧ (ao = none → L = []) ∧ (∀ a, ao = some a → ∀ j p, L[j]? = some p → ∀ i u, p.cells[i]? = some u → w.cell? (a.add (j * 7 + i)) = some u) ∧ ∀ p ∈ L, p.Good w
theorem OpD.cells_length (p : OpD) : p.cells.length = 7 := rfl
theorem Sl.below' {w w' : World} {v : Value} {xs : List UInt8} {B : Nat} (h : Sl w v xs) (hb : Below B w w') (hs : w.heap.size ≤ B) : Sl w' v xs := by
  obtain ⟨ao, c, rfl, hno, hc⟩ := h
  refine ⟨ao, c, rfl, hno, fun a ha j u hu => ?_⟩
  have := hc a ha j u hu
  rw [hb.cell (Nat.lt_of_lt_of_le (World.block_lt_of_cell? w _ this) hs)]
  exact this
theorem Nums.below {w w' : World} {v : Value} {L : List Int} {B : Nat} (h : Nums w v L) (hb : Below B w w') (hs : w.heap.size ≤ B) : Nums w' v L := by
  obtain ⟨ao, c, rfl, hc, hw⟩ := h
  refine ⟨ao, c, rfl, fun j hj => ?_, hw⟩
  obtain ⟨a, ha, this⟩ := hc j hj
  refine ⟨a, ha, ?_⟩
  rw [hb.cell (Nat.lt_of_lt_of_le (World.block_lt_of_cell? w _ this) hs)]
  exact this
theorem OpD.Good.below {w w' : World} {p : OpD} {B : Nat} (h : p.Good w) (hb : Below B w w') (hs : w.heap.size ≤ B) : p.Good w' := ⟨h.kind, h.n, h.at_, h.x, h.data.below' hb hs, h.len, h.keep.below hb hs, h.klen⟩
theorem Ops.below {w w' : World} {v : Value} {L : List OpD} {B : Nat} (h : Ops w v L) (hb : Below B w w') (hs : w.heap.size ≤ B) : Ops w' v L := by
  obtain ⟨ao, c, rfl, hno, hc, hg⟩ := h
  refine ⟨ao, c, rfl, hno, fun a ha j p hp i u hu => ?_, fun p hp => (hg p hp).below hb hs⟩
  have := hc a ha j p hp i u hu
  rw [hb.cell (Nat.lt_of_lt_of_le (World.block_lt_of_cell? w _ this) hs)]
  exact this

section
variable {H : Type} {enc : TypeId × Value → H} {P : Program} {w : World} {base : Nat} {spare : Nat → Bool} {held : Bool}
theorem trod_struct7 {t : TypeId} {f0 f1 f2 f3 f4 f5 f6 : Field} {fuel : Nat} {cs : List Value} {x : DataW H × List MemPlace} (ht : P.underlying t = some (.struct #[f0, f1, f2, f3, f4, f5, f6])) (h : DataW.trod enc P w base spare held fuel t cs = some x) :
    ∃ y0 y1 y2 y3 y4 y5 y6 n, cs.length = P.cellsOf t ∧ DataW.trod enc P w base spare held n f0.type ((cs.drop f0.offset).take (P.cellsOf f0.type)) = some y0 ∧
      DataW.trod enc P w base spare held n f1.type ((cs.drop f1.offset).take (P.cellsOf f1.type)) = some y1 ∧ DataW.trod enc P w base spare held n f2.type ((cs.drop f2.offset).take (P.cellsOf f2.type)) = some y2 ∧
      DataW.trod enc P w base spare held n f3.type ((cs.drop f3.offset).take (P.cellsOf f3.type)) = some y3 ∧ DataW.trod enc P w base spare held n f4.type ((cs.drop f4.offset).take (P.cellsOf f4.type)) = some y4 ∧
      DataW.trod enc P w base spare held n f5.type ((cs.drop f5.offset).take (P.cellsOf f5.type)) = some y5 ∧ DataW.trod enc P w base spare held n f6.type ((cs.drop f6.offset).take (P.cellsOf f6.type)) = some y6 := by
  obtain ⟨xs, n, _, rfl, hl, hlen, hf⟩ := DataW.trod_struct ht h
  match xs, hlen with
  | [y0, y1, y2, y3, y4, y5, y6], _ => exact ⟨y0, y1, y2, y3, y4, y5, y6, n, hl, by simpa using hf 0 f0 rfl, by simpa using hf 1 f1 rfl, by simpa using hf 2 f2 rfl, by simpa using hf 3 f3 rfl, by simpa using hf 4 f4 rfl, by simpa using hf 5 f5 rfl, by simpa using hf 6 f6 rfl⟩
end
set_option maxRecDepth 100000 in
/-- A slice of bytes, off its cell. -/
theorem trod_bytes {H : Type} {enc : TypeId × Value → H} {W : World} {fuel : Nat} {cs : List Value} {x : DataW H × List MemPlace} (h : DataW.trod enc Try.prog W 0 (fun _ => true) true fuel 34 cs = some x) :
    ∃ ao c xs, cs = [.slice ao xs.length c] ∧ Sl W (.slice ao xs.length c) xs ∧ xs.length ≤ c ∧ c ≤ 9223372036854775807 := by
  rcases open_ints Try.underlying34 Try.underlying5 (by kernel_rfl) h with ⟨hcs, hx⟩ | ⟨a, len', cap', zs, hcs, _, hl, hm, hz, hx, hcell, hwz⟩
  · rw [hcs]
    exact ⟨none, 0, [], rfl, ⟨none, 0, rfl, (fun _ => rfl), (fun a ha => by cases ha)⟩, by simp, by omega⟩
  · rw [hcs]
    simp only [if_true] at hz
    have hb : ∀ z ∈ zs.take len', 0 ≤ z ∧ z ≤ 255 := fun z hz' => bounds_u8 (hwz z (List.mem_of_mem_take hz'))
    have hlen : (ofInts (zs.take len')).length = len' := by simp [ofInts]; omega
    refine ⟨some a, cap', ofInts (zs.take len'), (by rw [hlen]), ⟨some a, cap', rfl, (fun h => by cases h), ?_⟩, (by omega), (by unfold maxLen at hm; omega)⟩
    intro a' ha j u hu
    cases ha
    obtain ⟨hj, rfl⟩ := ofInts_get _ hb j u hu
    have hj' : j < len' := by have : (zs.take len').length ≤ len' := List.length_take_le _ _; omega
    rw [hcell j (by omega)]
    simp [List.getD, hj']
set_option maxRecDepth 100000 in
/-- A slice of numbers, off its cell. -/
theorem trod_nums {H : Type} {enc : TypeId × Value → H} {W : World} {fuel : Nat} {cs : List Value} {x : DataW H × List MemPlace} (h : DataW.trod enc Try.prog W 0 (fun _ => true) true fuel 35 cs = some x) :
    ∃ ao c L, cs = [.slice ao L.length c] ∧ Nums W (.slice ao L.length c) L ∧ L.length ≤ 9223372036854775807 := by
  rcases open_ints Try.underlying35 Try.underlying3 (by kernel_rfl) h with ⟨hcs, hx⟩ | ⟨a, len', cap', zs, hcs, _, hl, hm, hz, hx, hcell, hwz⟩
  · rw [hcs]
    exact ⟨none, 0, [], rfl, ⟨none, 0, rfl, (fun j hj => by simp at hj), (fun z hz => by cases hz)⟩, by simp⟩
  · rw [hcs]
    simp only [if_true] at hz
    have hlen : (zs.take len').length = len' := by simp; omega
    refine ⟨some a, cap', zs.take len', (by rw [hlen]), ⟨some a, cap', rfl, (fun j hj => ⟨a, rfl, ?_⟩), (fun z hz' => hwz z (List.mem_of_mem_take hz'))⟩, (by unfold maxLen at hm; omega)⟩
    rw [hlen] at hj
    rw [hcell j (by omega)]
    simp [List.getD, hj]
theorem list_nth_one {cs : List Value} {k : Nat} {v : Value} (h : (cs.drop k).take 1 = [v]) : cs[k]? = some v := by
  have := congrArg (fun l => l[0]?) h
  simpa [List.getElem?_take, List.getElem?_drop] using this
theorem cP_op : Try.prog.cellsOf 37 = 7 := by kernel_rfl
theorem cP_u8 : Try.prog.cellsOf 5 = 1 := by kernel_rfl
theorem cP_int : Try.prog.cellsOf 3 = 1 := by kernel_rfl
theorem cP_bool : Try.prog.cellsOf 4 = 1 := by kernel_rfl
theorem cP_bytes : Try.prog.cellsOf 34 = 1 := by kernel_rfl
theorem cP_ints : Try.prog.cellsOf 35 = 1 := by kernel_rfl
set_option maxRecDepth 100000 in
/-- One operation, off its cells. -/
theorem trod_op {H : Type} {enc : TypeId × Value → H} {W : World} {fuel : Nat} {cs : List Value} {x : DataW H × List MemPlace} (h : DataW.trod enc Try.prog W 0 (fun _ => true) true fuel 37 cs = some x) :
    ∃ p : OpD, cs = p.cells ∧ p.Good W := by
  obtain ⟨y0, y1, y2, y3, y4, y5, y6, n, hl, h0, h1, h2, h3, h4, h5, h6⟩ := trod_struct7 Try.underlying37 h
  simp only [cP_op, cP_int, cP_u8, cP_bool, cP_bytes, cP_ints] at hl h0 h1 h2 h3 h4 h5 h6
  obtain ⟨k, e0, _, w0⟩ := DataW.trod_int Try.underlying3 h0
  obtain ⟨a, e1, _, w1⟩ := DataW.trod_int Try.underlying3 h1
  obtain ⟨b, e2, _, w2⟩ := DataW.trod_int Try.underlying3 h2
  obtain ⟨x8, e3, _, w3⟩ := DataW.trod_int Try.underlying5 h3
  obtain ⟨raw, e4, _⟩ := DataW.trod_bool Try.underlying4 h4
  obtain ⟨ao, c, xs, e5, s5, l5, m5⟩ := trod_bytes h5
  obtain ⟨ko, kc, L, e6, s6, l6⟩ := trod_nums h6
  refine ⟨⟨k, a, b, x8, raw, ao, c, xs, ko, kc, L⟩, ?_, ⟨w0, w1, w2, bounds_u8 w3, s5, by show xs.length ≤ _; omega, s6, l6⟩⟩
  have g0 := list_nth_one e0
  have g1 := list_nth_one e1
  have g2 := list_nth_one e2
  have g3 := list_nth_one e3
  have g4 := list_nth_one e4
  have g5 := list_nth_one e5
  have g6 := list_nth_one e6
  match cs, hl with
  | [v0, v1, v2, v3, v4, v5, v6], hl =>
    simp at g0 g1 g2 g3 g4 g5 g6
    rw [g0, g1, g2, g3, g4, g5, g6]
    rfl
set_option maxRecDepth 100000 in
theorem open_ops {H : Type} {enc : TypeId × Value → H} {W : World} {base : Nat} {v : Value} {d : DataW H} {p : List MemPlace} (hv : Value.okWide Try.prog W .any base 22 v) (h : DataW.Trod enc Try.prog W 0 (fun _ => true) true 22 v d p) : ∃ L, Ops W v L ∧ L.length ≤ 9223372036854775807 := by
  obtain ⟨a0, len, cap, rfl⟩ := okWide_slice Try.underlying22 hv
  obtain ⟨fuel, hf⟩ := h
  rcases open_slice Try.underlying22 hf with ⟨hcs, hx⟩ | ⟨a, len', cap', m, n, D, Pl, hcs, _, hl, hm, hmm, hx, hr⟩
  · simp only [Value.cells] at hcs
    injection hcs with hcs
    rw [hcs]
    exact ⟨[], ⟨none, 0, rfl, fun _ => rfl, (by intro a e; cases e), (by intro p hp; cases hp)⟩, Nat.zero_le _⟩
  · simp only [Value.cells] at hcs
    injection hcs with hcs
    rw [hcs]
    simp only [if_true] at hmm
    have each : ∀ i, i < len' → ∃ p : OpD, (∀ k u, p.cells[k]? = some u → W.cell? (a.add (i * 7 + k)) = some u) ∧ p.Good W := by
      intro i hi
      obtain ⟨cs', h1, h2⟩ := hr i (by omega)
      rw [cP_op] at h1
      obtain ⟨p, rfl, hg⟩ := trod_op h2
      refine ⟨p, fun k u hk => ?_, hg⟩
      obtain ⟨_, hlen, hcell⟩ := World.cells?_some h1
      have hk' : k < 7 := by
        have := (List.getElem?_eq_some_iff.1 hk).1
        rwa [p.cells_length] at this
      have := hcell k hk'
      rw [add_add] at this
      rw [this, hk]
    obtain ⟨q, hq⟩ := choose_lt each
    refine ⟨(List.range len').map q, ⟨some a, cap', by simp, (by intro e; cases e), fun a' ha j p hj k u hk => ?_, fun p hp => ?_⟩, by unfold maxLen at hm; simp; omega⟩
    · cases ha
      have hjl : j < len' := by simpa using (List.getElem?_eq_some_iff.1 hj).1
      obtain rfl : q j = p := by simpa [hjl] using hj
      exact (hq j hjl).1 k u hk
    · obtain ⟨j, hj, rfl⟩ := List.mem_map.1 hp
      exact (hq j (List.mem_range.1 hj)).2
end Go.Proofs.Ythcliaaoadfegaa.Dk
