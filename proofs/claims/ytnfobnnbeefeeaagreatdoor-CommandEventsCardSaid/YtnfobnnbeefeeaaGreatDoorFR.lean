/- Commands that came in. -/
import Derived.Test.YtnfobnnbeefeeaaGreatDoorGE
import Derived.Test.YtnfobnnbeefeeaaGreatDoorGR
namespace Go.Proofs.YtnfobnnbeefeeaaGreatDoor.Wi
open Go Go.RowKit Go.ChangeShapes Go.WideShapes Go.ChangeAt
set_option linter.unusedVariables false
set_option linter.unusedSimpArgs false
theorem trod_struct6C {H : Type} {enc : TypeId × Value → H} {P : Program} {w : World} {base : Nat} {spare : Nat → Bool} {held : Bool} {t : TypeId} {f0 f1 f2 f3 f4 f5 : Field} {fuel : Nat} {cs : List Value} {x : DataW H × List MemPlace} (ht : P.underlying t = some (.struct #[f0, f1, f2, f3, f4, f5])) (h : DataW.trod enc P w base spare held fuel t cs = some x) :
    ∃ y0 y1 y2 y3 y4 y5 n, fuel = n + 1 ∧ x.1 = .agg [y0.1, y1.1, y2.1, y3.1, y4.1, y5.1] ∧ cs.length = P.cellsOf t ∧ DataW.trod enc P w base spare held n f0.type ((cs.drop f0.offset).take (P.cellsOf f0.type)) = some y0 ∧ DataW.trod enc P w base spare held n f1.type ((cs.drop f1.offset).take (P.cellsOf f1.type)) = some y1 ∧ DataW.trod enc P w base spare held n f2.type ((cs.drop f2.offset).take (P.cellsOf f2.type)) = some y2 ∧ DataW.trod enc P w base spare held n f3.type ((cs.drop f3.offset).take (P.cellsOf f3.type)) = some y3 ∧ DataW.trod enc P w base spare held n f4.type ((cs.drop f4.offset).take (P.cellsOf f4.type)) = some y4 ∧ DataW.trod enc P w base spare held n f5.type ((cs.drop f5.offset).take (P.cellsOf f5.type)) = some y5 := by
  obtain ⟨xs, n, hn, rfl, hl, hlen, hf⟩ := DataW.trod_struct ht h
  match xs, hlen with
  | [y0, y1, y2, y3, y4, y5], _ => exact ⟨y0, y1, y2, y3, y4, y5, n, hn, rfl, hl, by simpa using hf 0 f0 rfl, by simpa using hf 1 f1 rfl, by simpa using hf 2 f2 rfl, by simpa using hf 3 f3 rfl, by simpa using hf 4 f4 rfl, by simpa using hf 5 f5 rfl⟩
theorem cCommand : Tryz.prog.cellsOf 42 = 9 := by kernel_rfl
set_option maxRecDepth 100000 in
theorem open_cmcells {H : Type} {enc : TypeId × Value → H} {W : World} : ∀ (fuel : Nat) (cs : List Value) (x : DataW H × List MemPlace), DataW.trod enc Tryz.prog W 0 (fun _ => true) true fuel 42 cs = some x → (∀ k ∈ x.1.weights Tryz.prog 42, k ≤ reachBytes) →
    ∃ v : Cm, cs = v.cells ∧ v.At W.heap.size W := by
  intro fuel cs x h hw
  obtain ⟨y0, y1, y2, y3, y4, y5, n, rfl, hx, hl, h0, h1, h2, h3, h4, h5⟩ := trod_struct6C Tryz.underlying42 h
  have hu : Tryz.prog.underlying 42 = some (.struct _) := Tryz.underlying42
  rw [hx, DataW.weights, hu] at hw
  simp only [List.map_cons, List.map_nil, List.toList_toArray, DataW.weightsEach, List.append_nil, List.mem_append] at hw
  obtain ⟨m0, e0, _, w0⟩ := DataW.trod_int Tryz.underlying3 h0
  obtain ⟨m1, e1, _, w1⟩ := DataW.trod_int Tryz.underlying2 h1
  obtain ⟨m2, e2, _, w2⟩ := DataW.trod_int Tryz.underlying2 h2
  obtain ⟨m3, e3, _, w3⟩ := DataW.trod_int Tryz.underlying2 h3
  obtain ⟨s4, e4, rfl, _⟩ := DataW.trod_string Tryz.underlying9 h4
  rw [cCommand] at hl
  dsimp only at e0 e1 e2 e3 e4 h5
  rw [cValI] at e0
  rw [cValI64] at e1 e2 e3
  rw [cValS] at e4
  rw [cValue] at h5
  match cs, hl with
  | [c0, c1, c2, c3, c4, c5, c6, c7, c8], _ =>
    have q0 : c0 = .int .i64 m0 := by simpa using e0
    have q1 : c1 = .int .i64 m1 := by simpa using e1
    have q2 : c2 = .int .i64 m2 := by simpa using e2
    have q3 : c3 = .int .i64 m3 := by simpa using e3
    have q4 : c4 = .string s4 := by simpa using e4
    have h5' : DataW.trod enc Tryz.prog W 0 (fun _ => true) true n 26 [c5, c6, c7, c8] = some y5 := h5
    subst q0 q1 q2 q3 q4
    obtain ⟨v, hv, hat⟩ := open_cells n _ _ h5' (fun k hk => hw k (.inr (.inr (.inr (.inr (.inr hk))))))
    have hs4 := hw s4.data.toList.length (.inr (.inr (.inr (.inr (.inl (by rw [DataW.weights]; exact List.mem_singleton.2 rfl))))))
    have hr := reach_le
    refine ⟨⟨m0, m1, m2, m3, s4.data.toList, v⟩, ?_, bounds_i64 w0, bounds_i64 w1, bounds_i64 w2, bounds_i64 w3, by dsimp only; omega, hat⟩
    unfold Cm.cells
    rw [← hv]
    simp [str]
set_option maxRecDepth 100000 in
theorem open_cm {H : Type} {enc : TypeId × Value → H} {W : World} {base : Nat} {v : Value} {d : DataW H} {p : List MemPlace} (hv : Value.okWide Tryz.prog W .any base 42 v) (h : DataW.Trod enc Tryz.prog W 0 (fun _ => true) true 42 v d p)
    (hw : ∀ k ∈ d.weights Tryz.prog 42, k ≤ reachBytes) : ∃ u : Cm, v = .agg u.cells.toArray ∧ u.At W.heap.size W := by
  obtain ⟨fuel, hf⟩ := h
  obtain ⟨u, hu, hat⟩ := open_cmcells fuel _ _ hf hw
  refine ⟨u, ?_, hat⟩
  have h4 := u.cells_len
  cases v with
  | agg cs =>
    have : cs.toList = u.cells := hu
    rw [← this]
  | _ =>
    have h1 : 1 = u.cells.length := congrArg List.length hu
    omega
theorem ccs_inv {l : List Cm} {j : Nat} {v : Value} (h : (ccs l)[j]? = some v) : ∃ x, l[j / 9]? = some x ∧ x.cells[j % 9]? = some v := by
  have hj := (List.getElem?_eq_some_iff.1 h).1
  rw [ccs_len] at hj
  obtain ⟨x, hx⟩ : ∃ x, l[j / 9]? = some x := ⟨_, List.getElem?_eq_getElem (by omega)⟩
  refine ⟨x, hx, ?_⟩
  have h4 := x.cells_len
  obtain ⟨u, hu⟩ : ∃ u, x.cells[j % 9]? = some u := ⟨_, List.getElem?_eq_getElem (by omega)⟩
  have := ccs_at l (j / 9) x hx (j % 9) u hu
  rw [show j / 9 * 9 + j % 9 = j by omega, h] at this
  rw [hu, ← this]
theorem bCommand : Tryz.prog.bytesOf 42 = 104 := by kernel_rfl
instance : Inhabited Cm := ⟨⟨0, 0, 0, 0, [], default⟩⟩
set_option maxRecDepth 100000 in
theorem open_cms {H : Type} {enc : TypeId × Value → H} {W : World} {base : Nat} {v : Value} {d : DataW H} {p : List MemPlace} (hv : Value.okWide Tryz.prog W .any base 39 v) (h : DataW.Trod enc Tryz.prog W 0 (fun _ => true) true 39 v d p)
    (hw : ∀ k ∈ d.weights Tryz.prog 39, k ≤ reachBytes) : ∃ (ao : Option Addr) (c : Nat) (l : List Cm), v = .slice ao l.length c ∧ CL W.heap.size W ao l := by
  obtain ⟨a0, len0, cap0, rfl⟩ := okWide_slice Tryz.underlying39 hv
  obtain ⟨fuel, hf⟩ := h
  rcases DataW.trod_slice Tryz.underlying39 hf with ⟨hcs, hx⟩ | ⟨a, len, cap, elems, rest, m, hm, hcs, hx, _, hlc, _, hel, hall, _, _⟩
  · have hcs' : ([Value.slice a0 len0 cap0] : List Value) = [.slice none 0 0] := hcs
    injection hcs' with hcs' _
    exact ⟨none, 0, [], hcs', (fun x hx => by cases hx), (fun h => absurd rfl h), by simp⟩
  · have hcs' : ([Value.slice a0 len0 cap0] : List Value) = [.slice (some a) len cap] := hcs
    injection hcs' with hcs' _
    rw [hcs']
    rw [show d = _ from congrArg Prod.fst hx] at hw
    have hu : Tryz.prog.underlying 39 = some (.slice 42) := Tryz.underlying39
    rw [DataW.weights, hu] at hw
    dsimp only at hw
    rw [bCommand] at hw
    have hr := reach_le
    have hsz := hw _ (List.mem_cons_self ..)
    rw [List.length_map, List.length_map] at hsz
    have each : ∀ i, i < len → ∃ v : Cm, (∀ k u, v.cells[k]? = some u → W.cell? (a.add (i * 9 + k)) = some u) ∧ v.At W.heap.size W := by
      intro i hi
      have h1 := hall i hi
      rw [cCommand, List.getElem?_eq_getElem (by omega)] at h1
      obtain ⟨cs', h2, h3⟩ := Option.bind_eq_some_iff.1 h1
      obtain ⟨v, rfl, hv⟩ := open_cmcells m cs' _ h3 (fun k hk => hw k (List.mem_cons_of_mem _ (List.mem_append.2 (Or.inl (weightsAll_memV (List.mem_map.2 ⟨_, List.getElem_mem _, rfl⟩) k hk)))))
      refine ⟨v, fun k u hk => ?_, hv⟩
      obtain ⟨_, hlen, hcell⟩ := World.cells?_some h2
      have hk' : k < 9 := by
        have := (List.getElem?_eq_some_iff.1 hk).1
        rwa [v.cells_len] at this
      have := hcell k hk'
      rw [Addr.add_add] at this
      rw [this, hk]
    obtain ⟨q, hq⟩ := choose_ltV each
    have hlenq : ((List.range len).map q).length = len := by simp
    refine ⟨some a, cap, (List.range len).map q, by rw [hlenq], fun x hx => ?_, fun hne => ⟨a, rfl, ?_, fun j v hj => ?_⟩, by rw [hlenq]; omega⟩
    · obtain ⟨j, hj, rfl⟩ := List.mem_map.1 hx
      exact (hq j (List.mem_range.1 hj)).2
    · have hl0 : 0 < len := by
        rcases Nat.eq_zero_or_pos len with h0 | h0
        · rw [h0] at hne; exact absurd rfl hne
        · exact h0
      have h1 := hall 0 hl0
      rw [cCommand, List.getElem?_eq_getElem (by omega)] at h1
      obtain ⟨cs', h2, _⟩ := Option.bind_eq_some_iff.1 h1
      have := World.cells?_block h2 (by decide)
      rwa [addr_blockK] at this
    · obtain ⟨x, hx1, hx2⟩ := ccs_inv hj
      have hjl : j / 9 < len := by
        have := (List.getElem?_eq_some_iff.1 hx1).1
        rwa [hlenq] at this
      obtain rfl : q (j / 9) = x := by simpa [hjl] using hx1
      have := (hq (j / 9) hjl).1 _ _ hx2
      rwa [show j / 9 * 9 + j % 9 = j by omega] at this
end Go.Proofs.YtnfobnnbeefeeaaGreatDoor.Wi
