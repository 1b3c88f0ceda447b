/- Tries (foliotlaw06.Try) that came in; slices of slices of numbers that came in. -/
import Derived.Test.YtgbmkolpdnenlaaMr
import Derived.Test.YtgbmkolpdnenlaaDj
import Derived.Test.YtgbmkolpdnenlaaDi
import Derived.Lib.SmallJoins
import Derived.Deep.Matrix
namespace Go.Proofs.Ytgbmkolpdnenlaa.Dk
open Go Go.RowKit Go.ChangeShapes Go.WideShapes Go.ChangeAt Go.Deep Go.Joins
set_option linter.unusedVariables false
set_option linter.unusedSimpArgs false
theorem U64s.below {w w' : World} {v : Value} {ws : List Nat} {B : Nat} (h : U64s w v ws) (hb : Below B w w') (hs : w.heap.size ≤ B) : U64s w' v ws := by
  obtain ⟨ao, c, rfl, hno, hc⟩ := h
  refine ⟨ao, c, rfl, hno, fun ad e j u hu => ?_⟩
  have := hc ad e j u hu
  rw [hb.cell (Nat.lt_of_lt_of_le (World.block_lt_of_cell? w _ this) hs)]
  exact this
theorem u64s_of_cells {W : World} {ao : Option Addr} {l c : Nat} {zs : List Int} (hl : l ≤ c) (hz : zs.length = c) (hno : ao = Option.none → c = 0) (hb : ∀ z ∈ zs, 0 ≤ z ∧ z ≤ 18446744073709551615) (hc : ∀ a, ao = some a → ∀ j, j < c → W.cell? (a.add j) = some (.int .u64 (zs.getD j 0))) :
    ((zs.take l).map Int.toNat).length = l ∧ U64s W (.slice ao l c) ((zs.take l).map Int.toNat) ∧ ∀ u ∈ (zs.take l).map Int.toNat, u < 18446744073709551616 := by
  have hlen : ((zs.take l).map Int.toNat).length = l := by simp; omega
  refine ⟨hlen, ⟨ao, c, by rw [hlen], fun h => ?_, fun a ha j u hu => ?_⟩, fun u hu => ?_⟩
  · have := hno h
    rw [hlen]
    omega
  · rw [List.map_map, List.getElem?_map] at hu
    obtain ⟨z, hz2, rfl⟩ := Option.map_eq_some_iff.1 hu
    have hjl : j < l := by
      have := (List.getElem?_eq_some_iff.1 hz2).1
      have : (zs.take l).length ≤ l := List.length_take_le _ _
      omega
    rw [List.getElem?_take, if_pos hjl] at hz2
    rw [hc a ha j (by omega)]
    have h0 := (hb z (List.mem_iff_getElem?.2 ⟨j, hz2⟩)).1
    have hzz : ((z.toNat : Nat) : Int) = z := Int.toNat_of_nonneg h0
    simp [List.getD, hz2, uv, hzz]
  · obtain ⟨z, hz2, rfl⟩ := List.mem_map.1 hu
    have := hb z (List.mem_of_mem_take hz2)
    omega
set_option maxRecDepth 100000 in
/-- A slice of numbers, off its cell. -/
theorem trod_u64s {H : Type} {enc : TypeId × Value → H} {W : World} {fuel : Nat} {cs : List Value} {x : DataW H × List MemPlace} (h : DataW.trod enc Try.prog W 0 (fun _ => true) true fuel 29 cs = some x) :
    ∃ ao c ws, cs = [.slice ao ws.length c] ∧ U64s W (.slice ao ws.length c) ws ∧ (∀ u ∈ ws, u < 18446744073709551616) ∧ ws.length ≤ 9223372036854775807 := by
  rcases open_ints Try.underlying29 Try.underlying28 (by kernel_rfl) h with ⟨hcs, hx⟩ | ⟨a, len', cap', zs, hcs, _, hl, hm, hz, hx, hcell, hwz⟩
  · rw [hcs]
    exact ⟨none, 0, [], rfl, ⟨none, 0, rfl, (fun _ => rfl), (fun a ha => by cases ha)⟩, by simp, by simp⟩
  · rw [hcs]
    simp only [if_true] at hz
    obtain ⟨b1, b2, b3⟩ := u64s_of_cells (W := W) (ao := some a) (l := len') (c := cap') (zs := zs) (by omega) (by omega) (fun h => by cases h) (fun z hz' => bounds_u64 (hwz z hz')) (fun a' ha j hj => by cases ha; exact hcell j (by omega))
    exact ⟨some a, cap', (zs.take len').map Int.toNat, by rw [b1], by rw [b1]; exact b2, b3, by rw [b1]; unfold maxLen at hm; omega⟩
structure TrD where
  ao : Option Addr
  cap : Nat
  ws : List Nat
  fuse : Int
  at_ : Int
  keep : Bool
instance : Inhabited TrD := ⟨⟨none, 0, [], 0, 0, false⟩⟩
def TrD.cells (p : TrD) : List Value := [.slice p.ao p.ws.length p.cap, .int .i64 p.fuse, .int .i64 p.at_, .bool p.keep]
structure TrD.Good (w : World) (p : TrD) : Prop where
  ws : U64s w (.slice p.ao p.ws.length p.cap) p.ws
  small : ∀ u ∈ p.ws, u < 18446744073709551616
  fuse : wfi p.fuse
  at_ : wfi p.at_
  len : p.ws.length ≤ 9223372036854775807
def Tries (w : World) (v : Value) (L : List TrD) : Prop :=
  ∃ ao c, v = .slice ao L.length c ∧ (ao = none → L = []) ∧ (∀ a, ao = some a → ∀ j p, L[j]? = some p → ∀ i u, p.cells[i]? = some u → w.cell? (a.add (j * 4 + i)) = some u) ∧ ∀ p ∈ L, p.Good w
theorem TrD.cells_length (p : TrD) : p.cells.length = 4 := rfl
theorem TrD.Good.below {w w' : World} {p : TrD} {B : Nat} (h : p.Good w) (hb : Below B w w') (hs : w.heap.size ≤ B) : p.Good w' := ⟨h.ws.below hb hs, h.small, h.fuse, h.at_, h.len⟩
theorem Tries.below {w w' : World} {v : Value} {L : List TrD} {B : Nat} (h : Tries w v L) (hb : Below B w w') (hs : w.heap.size ≤ B) : Tries w' v L := by
  obtain ⟨ao, c, rfl, hno, hc, hg⟩ := h
  refine ⟨ao, c, rfl, hno, fun a ha j p hp i u hu => ?_, fun p hp => (hg p hp).below hb hs⟩
  have := hc a ha j p hp i u hu
  rw [hb.cell (Nat.lt_of_lt_of_le (World.block_lt_of_cell? w _ this) hs)]
  exact this
theorem cP_try : Try.prog.cellsOf 53 = 4 := by kernel_rfl
theorem cP_u64s : Try.prog.cellsOf 29 = 1 := by kernel_rfl
set_option maxRecDepth 100000 in
theorem trod_try {H : Type} {enc : TypeId × Value → H} {W : World} {fuel : Nat} {cs : List Value} {x : DataW H × List MemPlace} (h : DataW.trod enc Try.prog W 0 (fun _ => true) true fuel 53 cs = some x) :
    ∃ p : TrD, cs = p.cells ∧ p.Good W := by
  obtain ⟨y0, y1, y2, y3, n, _, hl, h0, h1, h2, h3⟩ := trod_struct4 Try.underlying53 h
  simp only [cP_try, cP_u64s, cP_int, cP_bool] at hl h0 h1 h2 h3
  obtain ⟨ao, c, ws, e0, s0, b0, l0⟩ := trod_u64s h0
  obtain ⟨a, e1, _, w1⟩ := DataW.trod_int Try.underlying3 h1
  obtain ⟨b, e2, _, w2⟩ := DataW.trod_int Try.underlying3 h2
  obtain ⟨q, e3, _⟩ := DataW.trod_bool Try.underlying4 h3
  refine ⟨⟨ao, c, ws, a, b, q⟩, ?_, ⟨s0, b0, w1, w2, l0⟩⟩
  have g0 := list_nth_one e0
  have g1 := list_nth_one e1
  have g2 := list_nth_one e2
  have g3 := list_nth_one e3
  match cs, hl with
  | [v0, v1, v2, v3], hl =>
    simp at g0 g1 g2 g3
    rw [g0, g1, g2, g3]
    rfl
set_option maxRecDepth 100000 in
theorem open_tries {H : Type} {enc : TypeId × Value → H} {W : World} {base : Nat} {v : Value} {d : DataW H} {p : List MemPlace} (hv : Value.okWide Try.prog W .any base 51 v) (h : DataW.Trod enc Try.prog W 0 (fun _ => true) true 51 v d p) : ∃ ao c L, v = .slice ao L.length c ∧ Tries W (.slice ao L.length c) L := by
  obtain ⟨a0, len, cap, rfl⟩ := okWide_slice Try.underlying51 hv
  obtain ⟨fuel, hf⟩ := h
  rcases open_slice Try.underlying51 hf with ⟨hcs, hx⟩ | ⟨a, len', cap', m, n, D, Pl, hcs, _, hl, hm, hmm, hx, hr⟩
  · simp only [Value.cells] at hcs
    injection hcs with hcs
    rw [hcs]
    exact ⟨none, 0, [], rfl, ⟨none, 0, rfl, fun _ => rfl, (by intro a e; cases e), (by intro p hp; cases hp)⟩⟩
  · simp only [Value.cells] at hcs
    injection hcs with hcs
    rw [hcs]
    simp only [if_true] at hmm
    have each : ∀ i, i < len' → ∃ p : TrD, (∀ k u, p.cells[k]? = some u → W.cell? (a.add (i * 4 + k)) = some u) ∧ p.Good W := by
      intro i hi
      obtain ⟨cs', h1, h2⟩ := hr i (by omega)
      rw [cP_try] at h1
      obtain ⟨p, rfl, hg⟩ := trod_try h2
      refine ⟨p, fun k u hk => ?_, hg⟩
      obtain ⟨_, hlen, hcell⟩ := World.cells?_some h1
      have hk' : k < 4 := by
        have := (List.getElem?_eq_some_iff.1 hk).1
        rwa [p.cells_length] at this
      have := hcell k hk'
      rw [add_add] at this
      rw [this, hk]
    obtain ⟨q, hq⟩ := choose_lt each
    refine ⟨some a, cap', (List.range len').map q, by simp, ⟨some a, cap', rfl, (by intro e; cases e), fun a' ha j p hj k u hk => ?_, fun p hp => ?_⟩⟩
    · cases ha
      have hjl : j < len' := by simpa using (List.getElem?_eq_some_iff.1 hj).1
      obtain rfl : q j = p := by simpa [hjl] using hj
      exact (hq j hjl).1 k u hk
    · obtain ⟨j, hj, rfl⟩ := List.mem_map.1 hp
      exact (hq j (List.mem_range.1 hj)).2
theorem Try.trySize (p : TrD) : (Try.prog.info? 53).map (·.size) = some p.cells.length := by rw [p.cells_length]; kernel_rfl
theorem TrD.cells_one (p : TrD) : p.cells.toArray.all (·.oneCell') = true := all_oneCell_toArray (by
  intro v hv
  simp only [TrD.cells, List.mem_cons, List.not_mem_nil, or_false] at hv
  rcases hv with rfl | rfl | rfl | rfl <;> rfl)
theorem Tries.at {w : World} {ao : Option Addr} {c : Nat} {L : List TrD} (h : Tries w (.slice ao L.length c) L) {j : Nat} (hj : j < L.length) : ∃ a, ao = some a ∧ (∀ i v, (L.getD j default).cells[i]? = some v → w.cell? ((a.add (j * 4)).add i) = some v) ∧ (L.getD j default).Good w := by
  obtain ⟨ao', c', e, hno, hc, hg⟩ := h
  injection e with e1 e2 e3
  subst e1 e3
  have hL : L.getD j default = L[j] := by simp [List.getD, hj]
  cases ao with
  | none => rw [hno rfl] at hj; simp at hj
  | some a =>
    refine ⟨a, rfl, fun i v hv => ?_, by rw [hL]; exact hg _ (List.getElem_mem hj)⟩
    rw [add_add]
    exact hc a rfl j _ (by rw [hL]; exact List.getElem?_eq_getElem hj) i v hv
/-- Slices of numbers in a slice. -/
def NumL (w : World) (v : Value) (L : List (List Nat)) : Prop :=
  ∃ ao c, v = .slice ao L.length c ∧ ∀ j, j < L.length → ∃ a, ao = some a ∧ ∃ aj cj, w.cell? (a.add j) = some (.slice aj (L.getD j []).length cj) ∧ U64s w (.slice aj (L.getD j []).length cj) (L.getD j []) ∧ (∀ u ∈ L.getD j [], u < 18446744073709551616) ∧ (L.getD j []).length ≤ 9223372036854775807
theorem NumL.below {w w' : World} {v : Value} {L : List (List Nat)} {B : Nat} (h : NumL w v L) (hb : Below B w w') (hs : w.heap.size ≤ B) : NumL w' v L := by
  obtain ⟨ao, c, rfl, hc⟩ := h
  refine ⟨ao, c, rfl, fun j hj => ?_⟩
  obtain ⟨a, ha, aj, cj, h1, h2, h3, h4⟩ := hc j hj
  refine ⟨a, ha, aj, cj, ?_, h2.below hb hs, h3, h4⟩
  rw [hb.cell (Nat.lt_of_lt_of_le (World.block_lt_of_cell? w _ h1) hs)]
  exact h1
set_option maxRecDepth 100000 in
theorem open_numl {H : Type} {enc : TypeId × Value → H} {W : World} {base : Nat} {v : Value} {d : DataW H} {p : List MemPlace} (hv : Value.okWide Try.prog W .any base 22 v) (h : DataW.Trod enc Try.prog W 0 (fun _ => true) true 22 v d p) :
    ∃ ao c L, v = .slice ao L.length c ∧ NumL W (.slice ao L.length c) L ∧ L.length ≤ 9223372036854775807 := by
  obtain ⟨a0, len, cap, rfl⟩ := okWide_slice Try.underlying22 hv
  obtain ⟨fuel, hf⟩ := h
  rcases Go.Deep.open_int_rows Try.underlying22 Try.underlying29 Try.underlying28 (by kernel_rfl) (by kernel_rfl) hf with ⟨hcs, hx⟩ | ⟨a, len', cap', A, L, C, Z, hcs, _, hl, hm, hx, hr⟩
  · simp only [Value.cells] at hcs
    injection hcs with hcs
    rw [hcs]
    exact ⟨none, 0, [], rfl, ⟨none, 0, rfl, fun j hj => by cases hj⟩, Nat.zero_le _⟩
  · simp only [Value.cells] at hcs
    injection hcs with hcs
    rw [hcs]
    unfold maxLen at hm hr
    have hrow : ∀ r, r < len' → (((Z r).take (L r)).map Int.toNat).length = L r ∧ U64s W (.slice (A r) (L r) (C r)) (((Z r).take (L r)).map Int.toNat) ∧ (∀ u ∈ ((Z r).take (L r)).map Int.toNat, u < 18446744073709551616) ∧ L r ≤ 9223372036854775807 := fun r hrl => by
      obtain ⟨h1, h2, h3, h4, h5, h6, h7⟩ := hr r (by omega)
      obtain ⟨b1, b2, b3⟩ := u64s_of_cells (W := W) h2 h4 h6 (fun z hz' => bounds_u64 (h5 z hz')) (fun a' ha j hj => (h7 a' ha).2 j hj)
      exact ⟨b1, b2, b3, by omega⟩
    have hg : ∀ j, j < len' → ((List.range len').map fun r => ((Z r).take (L r)).map Int.toNat).getD j [] = ((Z j).take (L j)).map Int.toNat := fun j hj => by simp [List.getD, hj]
    refine ⟨some a, cap', (List.range len').map fun r => ((Z r).take (L r)).map Int.toNat, by simp, ⟨some a, cap', by simp, fun j hj => ⟨a, rfl, A j, C j, ?_⟩⟩, by simp; omega⟩
    have hjl : j < len' := by simpa using hj
    rw [hg j hjl, (hrow j hjl).1]
    exact ⟨(hr j (by omega)).1, (hrow j hjl).2⟩
end Go.Proofs.Ytgbmkolpdnenlaa.Dk
