/- A slice of parts (foliotlaw02.Part) that came in: what of it the walks ask. -/
import Derived.Test.YtcjnfmlpjolfpaaOpen
import Derived.Deep.Slices
namespace Go.Proofs.Ytcjnfmlpjolfpaa
open Go Go.RowKit Go.ChangeShapes Go.WideShapes Go.ChangeAt Go.Deep
set_option linter.unusedVariables false

/-- What a part holds. -/
structure PartD where
  kind : Int
  n : Int
  most : Int
  ao : Option Addr
  cap : Nat
  data : List UInt8
  sum : List UInt8
instance : Inhabited PartD := ⟨⟨0, 0, 0, none, 0, [], []⟩⟩
def PartD.cells (p : PartD) : List Value := [.int .i64 p.kind, .int .u64 p.n, .int .u64 p.most, .slice p.ao p.data.length p.cap] ++ bvs p.sum
structure PartD.Good (w : World) (p : PartD) : Prop where
  sum : p.sum.length = 32
  kind : -9223372036854775808 ≤ p.kind ∧ p.kind ≤ 9223372036854775807
  n : 0 ≤ p.n ∧ p.n ≤ 18446744073709551615
  most : 0 ≤ p.most ∧ p.most ≤ 18446744073709551615
  data : Sl w (.slice p.ao p.data.length p.cap) p.data
  len : p.data.length ≤ 9223372036854775807
/-- The slice: its cells, and each part good. -/
def Prts (w : World) (v : Value) (L : List PartD) : Prop :=
  ∃ ao c, v = .slice ao L.length c ∧ (ao = none → L = []) ∧ (∀ a, ao = some a → ∀ j p, L[j]? = some p → ∀ i u, p.cells[i]? = some u → w.cell? (a.add (j * 36 + i)) = some u) ∧ ∀ p ∈ L, p.Good w
theorem PartD.cells_length {w : World} {p : PartD} (h : p.Good w) : p.cells.length = 36 := by simp [PartD.cells, bvs, h.sum]
theorem Sl.below' {w w' : World} {v : Value} {xs : List UInt8} {B : Nat} (h : Sl w v xs) (hb : Below B w w') (hs : w.heap.size ≤ B) : Sl w' v xs := by
  obtain ⟨ao, c, rfl, hno, hc⟩ := h
  refine ⟨ao, c, rfl, hno, fun a ha j u hu => ?_⟩
  have := hc a ha j u hu
  rw [hb.cell (Nat.lt_of_lt_of_le (World.block_lt_of_cell? w _ this) hs)]
  exact this
theorem PartD.Good.below {w w' : World} {p : PartD} {B : Nat} (h : p.Good w) (hb : Below B w w') (hs : w.heap.size ≤ B) : p.Good w' := ⟨h.sum, h.kind, h.n, h.most, h.data.below' hb hs, h.len⟩
theorem Prts.below {w w' : World} {v : Value} {L : List PartD} {B : Nat} (h : Prts w v L) (hb : Below B w w') (hs : w.heap.size ≤ B) : Prts w' v L := by
  obtain ⟨ao, c, rfl, hno, hc, hg⟩ := h
  refine ⟨ao, c, rfl, hno, fun a ha j p hp i u hu => ?_, fun p hp => (hg p hp).below hb hs⟩
  have := hc a ha j p hp i u hu
  rw [hb.cell (Nat.lt_of_lt_of_le (World.block_lt_of_cell? w _ this) hs)]
  exact this

section
variable {H : Type} {enc : TypeId × Value → H} {P : Program} {w : World} {base : Nat} {spare : Nat → Bool} {held : Bool}
theorem trod_struct5 {t : TypeId} {f0 f1 f2 f3 f4 : Field} {fuel : Nat} {cs : List Value} {x : DataW H × List MemPlace} (ht : P.underlying t = some (.struct #[f0, f1, f2, f3, f4])) (h : DataW.trod enc P w base spare held fuel t cs = some x) :
    ∃ y0 y1 y2 y3 y4 n, cs.length = P.cellsOf t ∧ DataW.trod enc P w base spare held n f0.type ((cs.drop f0.offset).take (P.cellsOf f0.type)) = some y0 ∧
      DataW.trod enc P w base spare held n f1.type ((cs.drop f1.offset).take (P.cellsOf f1.type)) = some y1 ∧ DataW.trod enc P w base spare held n f2.type ((cs.drop f2.offset).take (P.cellsOf f2.type)) = some y2 ∧
      DataW.trod enc P w base spare held n f3.type ((cs.drop f3.offset).take (P.cellsOf f3.type)) = some y3 ∧ DataW.trod enc P w base spare held n f4.type ((cs.drop f4.offset).take (P.cellsOf f4.type)) = some y4 := by
  obtain ⟨xs, n, _, rfl, hl, hlen, hf⟩ := DataW.trod_struct ht h
  match xs, hlen with
  | [y0, y1, y2, y3, y4], _ => exact ⟨y0, y1, y2, y3, y4, n, hl, by simpa using hf 0 f0 rfl, by simpa using hf 1 f1 rfl, by simpa using hf 2 f2 rfl, by simpa using hf 3 f3 rfl, by simpa using hf 4 f4 rfl⟩
/-- An array of bytes, off its cells. -/
theorem trod_sum {t e : TypeId} {m fuel : Nat} {cs : List Value} {x : DataW H × List MemPlace} (ht : P.underlying t = some (.array m e)) (he : P.underlying e = some (.int .u8)) (hc : P.cellsOf e = 1) (hC : P.cellsOf t = m)
    (h : DataW.trod enc P w base spare held fuel t cs = some x) : ∃ ys : List UInt8, cs = bvs ys ∧ ys.length = m := by
  obtain ⟨xs, k, _, _, hl, hlen, hf⟩ := DataW.trod_array ht h
  rw [hC] at hl
  have each : ∀ i, i < m → ∃ a : Int, cs[i]? = some (.int .u8 a) ∧ 0 ≤ a ∧ a ≤ 255 := by
    intro i hi
    have h1 := hf i hi
    rw [List.getElem?_eq_getElem (by omega)] at h1
    obtain ⟨a, ea, _, wa⟩ := DataW.trod_int he h1
    refine ⟨a, ?_, bounds_u8 wa⟩
    have h2 := congrArg (fun l => l[0]?) ea
    simpa [hc, List.getElem?_take, List.getElem?_drop] using h2
  refine ⟨cs.map fun v => match v with | .int _ a => UInt8.ofNat a.toNat | _ => 0, ?_, by simpa using hl⟩
  apply List.ext_getElem?
  intro i
  by_cases hi : i < m
  · obtain ⟨a, ha, h0, h1⟩ := each i hi
    simp only [bvs, List.getElem?_map, ha, Option.map_some]
    unfold bv
    rw [UInt8.toNat_ofNat']
    congr 2
    omega
  · rw [List.getElem?_eq_none (by omega), List.getElem?_eq_none (by simp [bvs]; omega)]
end
set_option maxRecDepth 100000 in
/-- A slice of bytes, off its cell. -/
theorem trod_bytes {H : Type} {enc : TypeId × Value → H} {W : World} {fuel : Nat} {cs : List Value} {x : DataW H × List MemPlace} (h : DataW.trod enc Try.prog W 0 (fun _ => true) true fuel 24 cs = some x) :
    ∃ ao c xs, cs = [.slice ao xs.length c] ∧ Sl W (.slice ao xs.length c) xs ∧ xs.length ≤ c ∧ c ≤ 9223372036854775807 := by
  rcases open_ints Try.underlying24 Try.underlying5 (by kernel_rfl) h with ⟨hcs, hx⟩ | ⟨a, len', cap', zs, hcs, _, hl, hm, hz, hx, hcell, hwz⟩
  · rw [hcs]
    exact ⟨none, 0, [], rfl, ⟨none, 0, rfl, (fun _ => rfl), (fun a ha => by cases ha)⟩, by simp, by omega⟩
  · rw [hcs]
    simp only [if_true] at hz
    have hb : ∀ z ∈ zs.take len', 0 ≤ z ∧ z ≤ 255 := fun z hz' => bounds_u8 (hwz z (List.mem_of_mem_take hz'))
    have hlen : (ofInts (zs.take len')).length = len' := by simp [ofInts]; omega
    refine ⟨some a, cap', ofInts (zs.take len'), (by rw [hlen]), ⟨some a, cap', rfl, (fun h => by cases h), ?_⟩, (by omega), (by unfold maxLen at hm; omega)⟩
    intro a' ha j u hu
    cases ha
    obtain ⟨hj, rfl⟩ := ofInts_get _ hb j u hu
    have hj' : j < len' := by have : (zs.take len').length ≤ len' := List.length_take_le _ _; omega
    rw [hcell j (by omega)]
    simp [List.getD, hj']
theorem list_nth_one {cs : List Value} {k : Nat} {v : Value} (h : (cs.drop k).take 1 = [v]) : cs[k]? = some v := by
  have := congrArg (fun l => l[0]?) h
  simpa [List.getElem?_take, List.getElem?_drop] using this
theorem cP_part : Try.prog.cellsOf 31 = 36 := by kernel_rfl
theorem cP_u8 : Try.prog.cellsOf 5 = 1 := by kernel_rfl
theorem cP_sum : Try.prog.cellsOf 29 = 32 := by kernel_rfl
theorem cP_int : Try.prog.cellsOf 3 = 1 := by kernel_rfl
theorem cP_u64 : Try.prog.cellsOf 27 = 1 := by kernel_rfl
theorem cP_bytes : Try.prog.cellsOf 24 = 1 := by kernel_rfl
set_option maxRecDepth 100000 in
/-- One part, off its cells. -/
theorem trod_part {H : Type} {enc : TypeId × Value → H} {W : World} {fuel : Nat} {cs : List Value} {x : DataW H × List MemPlace} (h : DataW.trod enc Try.prog W 0 (fun _ => true) true fuel 31 cs = some x) :
    ∃ p : PartD, cs = p.cells ∧ p.Good W := by
  obtain ⟨y0, y1, y2, y3, y4, n, hl, h0, h1, h2, h3, h4⟩ := trod_struct5 Try.underlying31 h
  simp only [cP_part, cP_int, cP_u64, cP_bytes, cP_sum] at hl h0 h1 h2 h3 h4
  obtain ⟨k, e0, _, w0⟩ := DataW.trod_int Try.underlying3 h0
  obtain ⟨a, e1, _, w1⟩ := DataW.trod_int Try.underlying27 h1
  obtain ⟨b, e2, _, w2⟩ := DataW.trod_int Try.underlying27 h2
  obtain ⟨ao, c, xs, e3, s3, l3, m3⟩ := trod_bytes h3
  obtain ⟨ys, e4, l4⟩ := trod_sum Try.underlying29 Try.underlying5 cP_u8 cP_sum h4
  refine ⟨⟨k, a, b, ao, c, xs, ys⟩, ?_, ⟨l4, bounds_i64 w0, bounds_u64 w1, bounds_u64 w2, s3, by show xs.length ≤ _; omega⟩⟩
  have g0 := list_nth_one e0
  have g1 := list_nth_one e1
  have g2 := list_nth_one e2
  have g3 := list_nth_one e3
  rw [List.take_of_length_le (by simp [hl])] at e4
  match cs, hl with
  | v0 :: v1 :: v2 :: v3 :: cs', hl =>
    simp at g0 g1 g2 g3 e4
    rw [g0, g1, g2, g3, e4]
    rfl
set_option maxRecDepth 100000 in
theorem open_prts {H : Type} {enc : TypeId × Value → H} {W : World} {base : Nat} {v : Value} {d : DataW H} {p : List MemPlace} (hv : Value.okWide Try.prog W .any base 22 v) (h : DataW.Trod enc Try.prog W 0 (fun _ => true) true 22 v d p) : ∃ L, Prts W v L ∧ L.length ≤ 9223372036854775807 := by
  obtain ⟨a0, len, cap, rfl⟩ := okWide_slice Try.underlying22 hv
  obtain ⟨fuel, hf⟩ := h
  rcases open_slice Try.underlying22 hf with ⟨hcs, hx⟩ | ⟨a, len', cap', m, n, D, Pl, hcs, _, hl, hm, hmm, hx, hr⟩
  · simp only [Value.cells] at hcs
    injection hcs with hcs
    rw [hcs]
    exact ⟨[], ⟨none, 0, rfl, fun _ => rfl, (by intro a e; cases e), (by intro p hp; cases hp)⟩, Nat.zero_le _⟩
  · simp only [Value.cells] at hcs
    injection hcs with hcs
    rw [hcs]
    simp only [if_true] at hmm
    have each : ∀ i, i < len' → ∃ p : PartD, (∀ k u, p.cells[k]? = some u → W.cell? (a.add (i * 36 + k)) = some u) ∧ p.Good W := by
      intro i hi
      obtain ⟨cs', h1, h2⟩ := hr i (by omega)
      rw [cP_part] at h1
      obtain ⟨p, rfl, hg⟩ := trod_part h2
      refine ⟨p, fun k u hk => ?_, hg⟩
      obtain ⟨_, hlen, hcell⟩ := World.cells?_some h1
      have hk' : k < 36 := by
        have := (List.getElem?_eq_some_iff.1 hk).1
        rwa [p.cells_length hg] at this
      have := hcell k hk'
      rw [add_add] at this
      rw [this, hk]
    obtain ⟨q, hq⟩ := choose_lt each
    refine ⟨(List.range len').map q, ⟨some a, cap', by simp, (by intro e; cases e), fun a' ha j p hj k u hk => ?_, fun p hp => ?_⟩, by unfold maxLen at hm; simp; omega⟩
    · cases ha
      have hjl : j < len' := by simpa using (List.getElem?_eq_some_iff.1 hj).1
      obtain rfl : q j = p := by simpa [hjl] using hj
      exact (hq j hjl).1 k u hk
    · obtain ⟨j, hj, rfl⟩ := List.mem_map.1 hp
      exact (hq j (List.mem_range.1 hj)).2
end Go.Proofs.Ytcjnfmlpjolfpaa
