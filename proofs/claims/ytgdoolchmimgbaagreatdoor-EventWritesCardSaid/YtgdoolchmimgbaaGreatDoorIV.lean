/- Events in a row that came in; what erasing leaves. -/
import Derived.Test.YtgdoolchmimgbaaGreatDoorIN
import Derived.Test.YtgdoolchmimgbaaGreatDoorIS
namespace Go.Proofs.YtgdoolchmimgbaaGreatDoor.Wi
open Go Go.RowKit Go.ChangeShapes Go.WideShapes Go.ChangeAt
set_option linter.unusedVariables false
set_option linter.unusedSimpArgs false
theorem ecs_inv {l : List Ev} {j : Nat} {v : Value} (h : (ecs l)[j]? = some v) : ∃ x, l[j / 11]? = some x ∧ x.cells[j % 11]? = some v := by
  have hj := (List.getElem?_eq_some_iff.1 h).1
  rw [ecs_len] at hj
  obtain ⟨x, hx⟩ : ∃ x, l[j / 11]? = some x := ⟨_, List.getElem?_eq_getElem (by omega)⟩
  refine ⟨x, hx, ?_⟩
  have h4 := x.cells_len
  obtain ⟨u, hu⟩ : ∃ u, x.cells[j % 11]? = some u := ⟨_, List.getElem?_eq_getElem (by omega)⟩
  have := ecs_at l (j / 11) x hx (j % 11) u hu
  rw [show j / 11 * 11 + j % 11 = j by omega, h] at this
  rw [hu, ← this]
theorem bEvent : Tryz.prog.bytesOf 26 = 128 := by kernel_rfl
instance : Inhabited Ev := ⟨⟨0, 0, 0, 0, 0, [], [], default⟩⟩
set_option maxRecDepth 100000 in
theorem open_evs {H : Type} {enc : TypeId × Value → H} {W : World} {base : Nat} {v : Value} {d : DataW H} {p : List MemPlace} (hv : Value.okWide Tryz.prog W .any base 45 v) (h : DataW.Trod enc Tryz.prog W 0 (fun _ => true) true 45 v d p)
    (hw : ∀ k ∈ d.weights Tryz.prog 45, k ≤ reachBytes) : ∃ (ao : Option Addr) (c : Nat) (l : List Ev), v = .slice ao l.length c ∧ EL W.heap.size W ao l := by
  obtain ⟨a0, len0, cap0, rfl⟩ := okWide_slice Tryz.underlying45 hv
  obtain ⟨fuel, hf⟩ := h
  rcases DataW.trod_slice Tryz.underlying45 hf with ⟨hcs, hx⟩ | ⟨a, len, cap, elems, rest, m, hm, hcs, hx, _, hlc, _, hel, hall, _, _⟩
  · have hcs' : ([Value.slice a0 len0 cap0] : List Value) = [.slice none 0 0] := hcs
    injection hcs' with hcs' _
    exact ⟨none, 0, [], hcs', (fun x hx => by cases hx), (fun h => absurd rfl h), by simp⟩
  · have hcs' : ([Value.slice a0 len0 cap0] : List Value) = [.slice (some a) len cap] := hcs
    injection hcs' with hcs' _
    rw [hcs']
    rw [show d = _ from congrArg Prod.fst hx] at hw
    have hu : Tryz.prog.underlying 45 = some (.slice 26) := Tryz.underlying45
    rw [DataW.weights, hu] at hw
    dsimp only at hw
    rw [bEvent] at hw
    have hr := reach_le
    have hsz := hw _ (List.mem_cons_self ..)
    rw [List.length_map, List.length_map] at hsz
    have each : ∀ i, i < len → ∃ v : Ev, (∀ k u, v.cells[k]? = some u → W.cell? (a.add (i * 11 + k)) = some u) ∧ v.At W.heap.size W := by
      intro i hi
      have h1 := hall i hi
      rw [cEvent, List.getElem?_eq_getElem (by omega)] at h1
      obtain ⟨cs', h2, h3⟩ := Option.bind_eq_some_iff.1 h1
      obtain ⟨v, rfl, hv⟩ := open_evcells m cs' _ h3 (fun k hk => hw k (List.mem_cons_of_mem _ (List.mem_append.2 (Or.inl (weightsAll_memV (List.mem_map.2 ⟨_, List.getElem_mem _, rfl⟩) k hk)))))
      refine ⟨v, fun k u hk => ?_, hv⟩
      obtain ⟨_, hlen, hcell⟩ := World.cells?_some h2
      have hk' : k < 11 := by
        have := (List.getElem?_eq_some_iff.1 hk).1
        rwa [v.cells_len] at this
      have := hcell k hk'
      rw [Addr.add_add] at this
      rw [this, hk]
    obtain ⟨q, hq⟩ := choose_ltV each
    have hlenq : ((List.range len).map q).length = len := by simp
    refine ⟨some a, cap, (List.range len).map q, by rw [hlenq], fun x hx => ?_, fun hne => ⟨a, rfl, ?_, fun j v hj => ?_⟩, by rw [hlenq]; omega⟩
    · obtain ⟨j, hj, rfl⟩ := List.mem_map.1 hx
      exact (hq j (List.mem_range.1 hj)).2
    · have hl0 : 0 < len := by
        rcases Nat.eq_zero_or_pos len with h0 | h0
        · rw [h0] at hne; exact absurd rfl hne
        · exact h0
      have h1 := hall 0 hl0
      rw [cEvent, List.getElem?_eq_getElem (by omega)] at h1
      obtain ⟨cs', h2, _⟩ := Option.bind_eq_some_iff.1 h1
      have := World.cells?_block h2 (by decide)
      rwa [addr_blockK] at this
    · obtain ⟨x, hx1, hx2⟩ := ecs_inv hj
      have hjl : j / 11 < len := by
        have := (List.getElem?_eq_some_iff.1 hx1).1
        rwa [hlenq] at this
      obtain rfl : q (j / 11) = x := by simpa [hjl] using hx1
      have := (hq (j / 11) hjl).1 _ _ hx2
      rwa [show j / 11 * 11 + j % 11 = j by omega] at this
/-- A row of its own is a row. -/
theorem el_own {B c : Nat} {w : World} {ao : Option Addr} {Y : List Ev} (hel : ∀ y ∈ Y, y.At w.heap.size w) (own : w.ownsRow B 26 11 (.slice ao Y.length c) Y.length (ecs Y)) (hl : Y.length ≤ 140737488355328) : EL w.heap.size w ao Y := by
  refine ⟨hel, fun hne => ?_, hl⟩
  have h0 : ∃ u, (ecs Y)[0]? = some u := by
    have h := ecs_len Y
    have : 0 < Y.length := by cases Y with | nil => exact absurd rfl hne | cons y Y => simp
    exact ⟨_, List.getElem?_eq_getElem (by omega)⟩
  obtain ⟨u, hu⟩ := h0
  obtain ⟨g, rfl, hB, hg, _⟩ := own_cellK own hu
  refine ⟨_, rfl, hg, fun j v hj => ?_⟩
  obtain ⟨g', e, _, _, hc⟩ := own_cellK own hj
  injection e with e
  injection e with e
  rw [Addr.add_mid, Nat.zero_add, e]
  exact hc
theorem erE_nz : ∀ (l : List Ev) (n : Int), (erE n l).map Ev.nz = erE n (l.map Ev.nz)
  | [], n => rfl
  | x :: l, n => by
    rw [erE, List.map_cons, erE]
    by_cases h : eTask x.kind = true
    · rw [if_pos h, if_pos (show eTask x.nz.kind = true from h), erE_nz l n]
    · rw [if_neg h, if_neg (show ¬ eTask x.nz.kind = true from h), List.map_cons, erE_nz l (n + 1)]
      rfl
theorem erE_le : ∀ (l : List Ev) (n : Int), (erE n l).length ≤ l.length
  | [], n => by simp [erE]
  | x :: l, n => by
    rw [erE]
    split
    · have := erE_le l n; simp; omega
    · have := erE_le l (n + 1); simp; omega
theorem erE_mem : ∀ (l : List Ev) (n : Int) (y : Ev), y ∈ erE n l → ∃ x ∈ l, y.val = x.val
  | [], n, y, h => by simp [erE] at h
  | x :: l, n, y, h => by
    rw [erE] at h
    split at h
    · obtain ⟨z, hz, e⟩ := erE_mem l n y h
      exact ⟨z, List.mem_cons_of_mem _ hz, e⟩
    · rcases List.mem_cons.1 h with rfl | h
      · exact ⟨x, List.mem_cons_self .., rfl⟩
      · obtain ⟨z, hz, e⟩ := erE_mem l (n + 1) y h
        exact ⟨z, List.mem_cons_of_mem _ hz, e⟩
/-- What is kept is told once: erased again, the same is left. -/
theorem erE_again {l Y Z : List Ev} (hY : Y.map Ev.nz = (erE 1 l).map Ev.nz) (hZ : Z.map Ev.nz = (erE 1 Y).map Ev.nz) : Z.map Ev.nz = Y.map Ev.nz := by
  rw [hZ, erE_nz, hY, ← erE_nz, erE_idem]
theorem nz_mem {l Y : List Ev} (hY : Y.map Ev.nz = (erE 1 l).map Ev.nz) {y : Ev} (hy : y ∈ Y) : ∃ x ∈ l, y.val.nz = x.val.nz := by
  have h : y.nz ∈ Y.map Ev.nz := List.mem_map_of_mem hy
  rw [hY] at h
  obtain ⟨z, hz, e⟩ := List.mem_map.1 h
  obtain ⟨x, hx, e2⟩ := erE_mem l 1 z hz
  refine ⟨x, hx, ?_⟩
  rw [← e2]
  exact (congrArg Ev.val e).symm
/-- The next that is kept. -/
theorem er_next {l Y : List Ev} {j k : Nat} {x : Ev} (hY : Y.map Ev.nz = (erE 1 l).map Ev.nz) (hr : (erE 1 l).drop k = erE ((k : Int) + 1) (l.drop j)) (hd : l.drop j = x :: l.drop (j + 1)) (ht : eTask x.kind = false) :
    ∃ y, Y[k]? = some y ∧ y.nz = ({ x with id := (k : Int) + 1 } : Ev).nz ∧ (erE 1 l).drop (k + 1) = erE (((k + 1 : Nat) : Int) + 1) (l.drop (j + 1)) := by
  rw [hd, erE, if_neg (by rw [ht]; simp)] at hr
  have hk : k < (erE 1 l).length := by
    rcases Nat.lt_or_ge k (erE 1 l).length with h | h
    · exact h
    · rw [List.drop_of_length_le h] at hr; cases hr
  have hl := congrArg List.length hY
  rw [List.length_map, List.length_map] at hl
  rw [List.drop_eq_getElem_cons hk] at hr
  injection hr with h1 h2
  refine ⟨Y[k], List.getElem?_eq_getElem (by omega), ?_, h2⟩
  rw [← h1]
  have h3 : (Y.map Ev.nz)[k]? = ((erE 1 l).map Ev.nz)[k]? := by rw [hY]
  rw [List.getElem?_map, List.getElem?_map, List.getElem?_eq_getElem hk, List.getElem?_eq_getElem (show k < Y.length by omega)] at h3
  simpa using h3
theorem er_end {l Y : List Ev} {j k : Nat} (hY : Y.map Ev.nz = (erE 1 l).map Ev.nz) (hk : k ≤ Y.length) (hr : (erE 1 l).drop k = erE ((k : Int) + 1) (l.drop j)) (hj : l.length ≤ j) : k = Y.length := by
  rw [List.drop_of_length_le hj, erE] at hr
  have hl := congrArg List.length hY
  rw [List.length_map, List.length_map] at hl
  have := List.drop_eq_nil_iff.1 hr
  omega
end Go.Proofs.YtgdoolchmimgbaaGreatDoor.Wi
