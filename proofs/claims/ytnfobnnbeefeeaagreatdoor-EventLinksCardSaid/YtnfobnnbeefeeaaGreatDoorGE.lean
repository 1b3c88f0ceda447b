/- The head that every statement of values asks first. -/
import Derived.Test.YtnfobnnbeefeeaaGreatDoorGD
import Derived.Test.YtnfobnnbeefeeaaGreatDoorGC
import Derived.ProofKit
import Derived.OpenShut
import Derived.Carry
import Derived.SizedLaws
namespace Go.Proofs.YtnfobnnbeefeeaaGreatDoor.Wi
open Go Go.RowKit
set_option linter.unusedVariables false
set_option linter.unusedSimpArgs false
/-- The value of the head, but for its places. -/
def vH : VT := .mk 3 0 [] none 0 [ofV 5, txV [97]]
theorem vH_nz : vH.nz = vH := by simp [vH, VT.nz, nzL, ofV, txV]
theorem vH_chk : vH.chk 0 0 = (0, 3) := by simp [vH, VT.chk, chkL, ofV, txV]
theorem vH_vb : vH.vb = [3, 2, 1, 10, 2, 1, 97] := by decide +kernel
theorem vH_vE : vH.vE = 0 := by
  unfold VT.vE
  rw [vH_chk, vH_vb]
  simp
theorem vH_num : vH.Num := by simp [vH, VT.Num, NumL, ofV, txV]
theorem vH_kin : vH.Kin := by simp [vH, VT.Kin, KinL, ofV, txV]
theorem vH_pts : vH.pts = 3 := by simp [vH, VT.pts, ptsL, ofV, txV]
theorem vH_pv : vH.pv = [91, 53, 32, 34, 97, 34, 93] := by
  have h5 : Lib.itoa 5 = [53] := by
    have : Lib.decDigits 5 = [53] := Lib.decDigits_one (by decide)
    simpa [Lib.itoa] using this
  simp [vH, VT.pv, pvL, ofV, txV, h5, qt, qcs, qc]
theorem vE_nz {v u : VT} (h : v.nz = u.nz) : v.vE = u.vE := by
  unfold VT.vE
  rw [← nz_chk v, ← nz_vb v, ← nz_chk u, ← nz_vb u, h]
theorem nz_pzL : ∀ (l : List VT), (∀ x ∈ l, x.nz.pz = x.pz) → pzL (nzL l) = pzL l
  | [], _ => by rw [nzL]
  | x :: l, h => by rw [nzL, pzL, pzL, h x (by simp), nz_pzL l fun y hy => h y (by simp [hy])]
theorem nz_pz : ∀ v : VT, v.nz.pz = v.pz := by
  intro v
  induction v using VT.ind with
  | h k n s ao c l ih =>
    rw [VT.nz, VT.pz, VT.pz]
    by_cases k2 : k = 2
    · simp [k2]
    by_cases k3 : k = 3
    · simp only [k3, if_true]
      rw [nz_pzL l ih]
      simp
    · simp [k2, k3]
theorem chk_pz : ∀ (v : VT) (d p : Nat), (v.chk d p).1 = 0 → v.pz + 1 + 1055 * p ≤ 1055 * (v.chk d p).2 := by
  intro v
  induction v using VT.ind with
  | h k n s ao c l ih =>
    intro d p hc
    rw [VT.chk] at hc ⊢
    rw [VT.pz]
    by_cases hov : 256 < p + 1
    · rw [if_pos hov] at hc; cases hc
    rw [if_neg hov] at hc ⊢
    by_cases k01 : k = 0 ∨ k = 1
    · rw [if_pos k01, if_neg (show ¬ k = 2 by omega), if_neg (show ¬ k = 3 by omega)]
      dsimp only
      omega
    rw [if_neg k01] at hc ⊢
    by_cases k2 : k = 2
    · simp only [if_pos k2, if_neg (show ¬ k = 3 by omega)] at hc ⊢
      have hs : ¬ 256 < s.length := fun h => by rw [if_pos h] at hc; cases hc
      omega
    simp only [if_neg k2] at hc ⊢
    by_cases k3 : k = 3
    · simp only [if_pos k3] at hc ⊢
      by_cases hd : 8 ≤ d
      · rw [if_pos hd] at hc; cases hc
      rw [if_neg hd] at hc ⊢
      by_cases hl : 64 < l.length
      · rw [if_pos hl] at hc; cases hc
      rw [if_neg hl] at hc ⊢
      have key : ∀ (m : List VT) (q : Nat), (∀ x ∈ m, x ∈ l) → (chkL m (d + 1) q).1 = 0 → pzL m + 1055 * q ≤ 1055 * (chkL m (d + 1) q).2 := by
        intro m
        induction m with
        | nil => intro q _ _; rw [chkL, pzL]; dsimp only; omega
        | cons x m ihm =>
          intro q hm hq
          rw [chkL] at hq ⊢
          rw [pzL]
          by_cases hx0 : (x.chk (d + 1) q).1 = 0
          · rw [if_neg (fun h => h hx0)] at hq ⊢
            have h1 := ihm _ (fun y hy => hm y (by simp [hy])) hq
            have h2 := ih x (hm x (by simp)) _ _ hx0
            omega
          · rw [if_pos hx0] at hq
            exact absurd hq hx0
      have := key l (p + 1) (fun x hx => hx) hc
      omega
    · rw [if_neg k3] at hc
      cases hc
/-- What a value is of which it is told that it may be. -/
structure Fine (v : VT) : Prop where
  kin : v.Kin
  dpr : v.dpr 65536 = false
  pz : v.pz ≤ 270080
  pts : v.pts = (v.chk 0 0).2
  pts2 : v.pts ≤ 256
  vb : v.vb.length ≤ 512
theorem fine {v : VT} (h : v.vE = 0) : Fine v := by
  obtain ⟨h1, h2⟩ := vE_ok h
  have h3 := chk_pz v 0 0 h1
  have h4 := chk_le v 0 0 h1
  have h5 := chk_pts v 0 0 h1
  exact ⟨(chk_ok v 0 0 h1).1, chk_dpr v 0 0 65536 h1 (by omega), by omega, by omega, by omega, h2⟩
theorem own_Sl {B : Nat} {w : World} {n c : Nat} {ao : Option Addr} {ys : List UInt8} (h : w.ownsRow B 5 1 (.slice ao n c) n (bvs ys)) (hn : ys.length = n) : Sl w (.slice ao ys.length c) ys := by
  refine ⟨ao, c, rfl, (fun e => ?_), fun a ha j u hu => ?_⟩
  · rcases h.2 with ⟨_, e0⟩ | ⟨g, cap, cur, e1, _⟩
    · exact List.eq_nil_of_length_eq_zero (by omega)
    · injection e1 with e1 _ _
      rw [e] at e1; cases e1
  · obtain ⟨g, e1, _, _, e2⟩ := own_cellK h hu
    rw [ha] at e1
    injection e1 with e1
    rw [e1, Addr.add_mid, Nat.zero_add]
    exact e2
theorem rowB {W W' : World} {g : Nat} {v : VT} (h : W.heap[g]? = some (.cells v.cells.toArray 26 (0, 0))) (hb : Below W.heap.size W W') : ∀ (j : Nat) u, v.cells[j]? = some u → W'.cell? ((⟨g, 0, none⟩ : Addr).add j) = some u :=
  rowK ((hb.block g (lt_of_rowK h)).trans h)
theorem bs2 (x y : VT) : List.foldl (fun cs (x : Value × Nat) => cs.setIfInBounds (4 + x.snd) x.fst) (List.foldl (fun cs (x : Value × Nat) => cs.setIfInBounds x.snd x.fst) #[Value.int IntKind.i64 0, Value.int IntKind.i64 0, Value.string { data := #[] }, Value.slice none 0 0, Value.int IntKind.i64 0, Value.int IntKind.i64 0, Value.string { data := #[] }, Value.slice none 0 0] x.cells.zipIdx) y.cells.zipIdx = (vcs [x, y]).toArray := by
  cases x
  cases y
  simp [VT.cells, vcs]
theorem bs1 (x : VT) : List.foldl (fun cs (x : Value × Nat) => cs.setIfInBounds x.snd x.fst) #[Value.int IntKind.i64 0, Value.int IntKind.i64 0, Value.string { data := #[] }, Value.slice none 0 0] x.cells.zipIdx = x.cells.toArray := by
  cases x
  rfl
/-- A list of values in a block just made. -/
theorem list_new {w : World} {l : List VT} {c : Nat} (hl : l.length * 56 ≤ 140737488355328) (h : ∀ x ∈ l, x.At w.heap.size w) :
    (VT.mk 3 0 [] (some ⟨w.heap.size, 0, none⟩) c l).At (w.alloc (.cells (vcs l).toArray 26)).heap.size (w.alloc (.cells (vcs l).toArray 26)) := by
  have hb : Below w.heap.size w (w.alloc (.cells (vcs l).toArray 26)) := (Below.refl _ _).alloc (Nat.le_refl _) _
  have hs : w.heap.size < (w.alloc (.cells (vcs l).toArray 26)).heap.size := by simp
  rw [VT.At]
  refine ⟨by omega, by omega, by simp, hl, fun _ => ⟨_, rfl, hs, fun j v hj => ?_⟩, atL_of fun x hx => ((h x hx).below hb).mono (Nat.le_of_lt hs)⟩
  rw [Addr.add_mid, Nat.zero_add, cell_of_rowW _ w.heap.size j _ _ _ (heap_alloc_new w _)]
  simpa using hj
theorem GB.base {B C : Nat} {w : World} (h : GB B w) (hC : B ≤ C) : GB C w := ⟨fun w' hb => h.1 w' (hb.mono hC), fun w' hb => h.2 w' (hb.mono hC)⟩
end Go.Proofs.YtnfobnnbeefeeaaGreatDoor.Wi
/- Values that came in. -/
namespace Go.Proofs.YtnfobnnbeefeeaaGreatDoor.Wi
open Go Go.RowKit Go.ChangeShapes Go.WideShapes Go.ChangeAt
set_option linter.unusedVariables false
set_option linter.unusedSimpArgs false
theorem trod_struct4 {H : Type} {enc : TypeId × Value → H} {P : Program} {w : World} {base : Nat} {spare : Nat → Bool} {held : Bool} {t : TypeId} {f0 f1 f2 f3 : Field} {fuel : Nat} {cs : List Value} {x : DataW H × List MemPlace} (ht : P.underlying t = some (.struct #[f0, f1, f2, f3])) (h : DataW.trod enc P w base spare held fuel t cs = some x) :
    ∃ y0 y1 y2 y3 n, fuel = n + 1 ∧ x.1 = .agg [y0.1, y1.1, y2.1, y3.1] ∧ cs.length = P.cellsOf t ∧ DataW.trod enc P w base spare held n f0.type ((cs.drop f0.offset).take (P.cellsOf f0.type)) = some y0 ∧
      DataW.trod enc P w base spare held n f1.type ((cs.drop f1.offset).take (P.cellsOf f1.type)) = some y1 ∧ DataW.trod enc P w base spare held n f2.type ((cs.drop f2.offset).take (P.cellsOf f2.type)) = some y2 ∧
      DataW.trod enc P w base spare held n f3.type ((cs.drop f3.offset).take (P.cellsOf f3.type)) = some y3 := by
  obtain ⟨xs, n, hn, rfl, hl, hlen, hf⟩ := DataW.trod_struct ht h
  match xs, hlen with
  | [y0, y1, y2, y3], _ => exact ⟨y0, y1, y2, y3, n, hn, rfl, hl, by simpa using hf 0 f0 rfl, by simpa using hf 1 f1 rfl, by simpa using hf 2 f2 rfl, by simpa using hf 3 f3 rfl⟩
theorem cValue : Tryz.prog.cellsOf 26 = 4 := by kernel_rfl
theorem cValI : Tryz.prog.cellsOf 3 = 1 := by kernel_rfl
theorem cValI64 : Tryz.prog.cellsOf 2 = 1 := by kernel_rfl
theorem cValS : Tryz.prog.cellsOf 9 = 1 := by kernel_rfl
theorem cValL : Tryz.prog.cellsOf 24 = 1 := by kernel_rfl
theorem bValue : Tryz.prog.bytesOf 26 = 56 := by kernel_rfl
theorem vcs_inv {l : List VT} {j : Nat} {v : Value} (h : (vcs l)[j]? = some v) : ∃ x, l[j / 4]? = some x ∧ x.cells[j % 4]? = some v := by
  have hj := (List.getElem?_eq_some_iff.1 h).1
  rw [vcs_len] at hj
  obtain ⟨x, hx⟩ : ∃ x, l[j / 4]? = some x := ⟨_, List.getElem?_eq_getElem (by omega)⟩
  refine ⟨x, hx, ?_⟩
  have h4 := x.cells_len
  obtain ⟨u, hu⟩ : ∃ u, x.cells[j % 4]? = some u := ⟨_, List.getElem?_eq_getElem (by omega)⟩
  have := vcs_at l (j / 4) x hx (j % 4) u hu
  rw [show j / 4 * 4 + j % 4 = j by omega, h] at this
  rw [hu, ← this]
theorem choose_ltV {α : Type} [Inhabited α] {n : Nat} {p : Nat → α → Prop} (h : ∀ i, i < n → ∃ a, p i a) : ∃ q : Nat → α, ∀ i, i < n → p i (q i) := by
  classical
  refine ⟨fun i => if hi : i < n then (h i hi).choose else default, fun i hi => ?_⟩
  dsimp only
  rw [dif_pos hi]
  exact (h i hi).choose_spec
instance : Inhabited VT := ⟨.mk 0 0 [] none 0 []⟩
theorem weightsAll_memV {H : Type} {P : Program} {e : TypeId} : ∀ {l : List (DataW H)} {d : DataW H}, d ∈ l → ∀ n ∈ d.weights P e, n ∈ DataW.weightsAll P e l
  | [], d, h => by cases h
  | x :: l, d, h => fun n hn => by
    rw [DataW.weightsAll]
    rcases List.mem_cons.1 h with rfl | h
    · exact List.mem_append.2 (Or.inl hn)
    · exact List.mem_append.2 (Or.inr (weightsAll_memV h n hn))
theorem reach_le : reachBytes ≤ 140737488355328 := by unfold reachBytes; omega
set_option maxRecDepth 100000 in
/-- A list of values, off its slice. -/
theorem open_list {H : Type} {enc : TypeId × Value → H} {W : World} {n : Nat} {v : Value} {x : DataW H × List MemPlace}
    (ih : ∀ m, m < n → ∀ cs y, DataW.trod enc Tryz.prog W 0 (fun _ => true) true m 26 cs = some y → (∀ k ∈ y.1.weights Tryz.prog 26, k ≤ reachBytes) → ∃ v : VT, cs = v.cells ∧ v.At W.heap.size W)
    (h : DataW.trod enc Tryz.prog W 0 (fun _ => true) true n 24 [v] = some x) (hw : ∀ k ∈ x.1.weights Tryz.prog 24, k ≤ reachBytes) :
    ∃ (ao : Option Addr) (c : Nat) (l : List VT), v = .slice ao l.length c ∧ l.length * 56 ≤ 140737488355328 ∧ (∀ x ∈ l, x.At W.heap.size W) ∧
      (l ≠ [] → ∃ ad, ao = some ad ∧ ad.block < W.heap.size ∧ ∀ (j : Nat) v, (vcs l)[j]? = some v → W.cell? (ad.add j) = some v) := by
  rcases DataW.trod_slice Tryz.underlying24 h with ⟨hcs, hx⟩ | ⟨a, len, cap, elems, rest, m, hm, hcs, hx, _, hlc, _, hel, hall, _, _⟩
  · injection hcs with hcs _
    exact ⟨none, 0, [], hcs, by simp, (fun x hx => by cases hx), fun h => absurd rfl h⟩
  · injection hcs with hcs _
    subst hcs
    rw [hx] at hw
    have hu : Tryz.prog.underlying 24 = some (.slice 26) := Tryz.underlying24
    rw [DataW.weights, hu] at hw
    dsimp only at hw
    rw [bValue] at hw
    have hr := reach_le
    have hsz := hw _ (List.mem_cons_self ..)
    rw [List.length_map, List.length_map] at hsz
    have each : ∀ i, i < len → ∃ v : VT, (∀ k u, v.cells[k]? = some u → W.cell? (a.add (i * 4 + k)) = some u) ∧ v.At W.heap.size W := by
      intro i hi
      have h1 := hall i hi
      rw [cValue, List.getElem?_eq_getElem (by omega)] at h1
      obtain ⟨cs', h2, h3⟩ := Option.bind_eq_some_iff.1 h1
      obtain ⟨v, rfl, hv⟩ := ih m (by omega) cs' _ h3 (fun k hk => hw k (List.mem_cons_of_mem _ (List.mem_append.2 (Or.inl (weightsAll_memV (List.mem_map.2 ⟨_, List.getElem_mem _, rfl⟩) k hk)))))
      refine ⟨v, fun k u hk => ?_, hv⟩
      obtain ⟨_, hlen, hcell⟩ := World.cells?_some h2
      have hk' : k < 4 := by
        have := (List.getElem?_eq_some_iff.1 hk).1
        rwa [v.cells_len] at this
      have := hcell k hk'
      rw [Addr.add_add] at this
      rw [this, hk]
    obtain ⟨q, hq⟩ := choose_ltV each
    have hlenq : ((List.range len).map q).length = len := by simp
    refine ⟨some a, cap, (List.range len).map q, by rw [hlenq], by rw [hlenq]; omega, fun x hx => ?_, fun hne => ⟨a, rfl, ?_, fun j v hj => ?_⟩⟩
    · obtain ⟨j, hj, rfl⟩ := List.mem_map.1 hx
      exact (hq j (List.mem_range.1 hj)).2
    · have hl0 : 0 < len := by
        rcases Nat.eq_zero_or_pos len with h0 | h0
        · rw [h0] at hne; exact absurd rfl hne
        · exact h0
      have h1 := hall 0 hl0
      rw [cValue, List.getElem?_eq_getElem (by omega)] at h1
      obtain ⟨cs', h2, _⟩ := Option.bind_eq_some_iff.1 h1
      have := World.cells?_block h2 (by decide)
      rwa [addr_blockK] at this
    · obtain ⟨x, hx1, hx2⟩ := vcs_inv hj
      have hjl : j / 4 < len := by
        have := (List.getElem?_eq_some_iff.1 hx1).1
        rwa [hlenq] at this
      obtain rfl : q (j / 4) = x := by simpa [hjl] using hx1
      have := (hq (j / 4) hjl).1 _ _ hx2
      rwa [show j / 4 * 4 + j % 4 = j by omega] at this
set_option maxRecDepth 100000 in
theorem open_cells {H : Type} {enc : TypeId × Value → H} {W : World} : ∀ (fuel : Nat) (cs : List Value) (x : DataW H × List MemPlace), DataW.trod enc Tryz.prog W 0 (fun _ => true) true fuel 26 cs = some x → (∀ k ∈ x.1.weights Tryz.prog 26, k ≤ reachBytes) →
    ∃ v : VT, cs = v.cells ∧ v.At W.heap.size W := by
  intro fuel
  induction fuel using Nat.strongRecOn with
  | _ fuel ih =>
    intro cs x h hw
    obtain ⟨y0, y1, y2, y3, n, rfl, hx, hl, h0, h1, h2, h3⟩ := trod_struct4 Tryz.underlying26 h
    have hu : Tryz.prog.underlying 26 = some (.struct _) := Tryz.underlying26
    rw [hx, DataW.weights, hu] at hw
    simp only [List.map_cons, List.map_nil, List.toList_toArray, DataW.weightsEach, List.append_nil] at hw
    obtain ⟨k, e0, _, w0⟩ := DataW.trod_int Tryz.underlying3 h0
    obtain ⟨m, e1, _, w1⟩ := DataW.trod_int Tryz.underlying2 h1
    obtain ⟨s, e2, rfl, _⟩ := DataW.trod_string Tryz.underlying9 h2
    rw [cValue] at hl
    dsimp only at e0 e1 e2 h3
    rw [cValI] at e0
    rw [cValI64] at e1
    rw [cValS] at e2
    rw [cValL] at h3
    match cs, hl with
    | [c0, c1, c2, c3], _ =>
      have q0 : c0 = .int .i64 k := by simpa using e0
      have q1 : c1 = .int .i64 m := by simpa using e1
      have q2 : c2 = .string s := by simpa using e2
      have h3' : DataW.trod enc Tryz.prog W 0 (fun _ => true) true n 24 [c3] = some y3 := h3
      subst q0 q1 q2
      obtain ⟨ao, c, l, rfl, hb, hat, hcell⟩ := open_list (fun m hm cs y h hw => ih m (by omega) cs y h hw) h3' (fun k hk => hw k (List.mem_append.2 (Or.inr (List.mem_append.2 (Or.inr (List.mem_append.2 (Or.inr hk)))))))
      have hs := hw s.data.toList.length (List.mem_append.2 (Or.inr (List.mem_append.2 (Or.inr (List.mem_append.2 (Or.inl (by rw [DataW.weights]; exact List.mem_singleton.2 rfl)))))))
      refine ⟨.mk k m s.data.toList ao c l, ?_, ?_⟩
      · simp [VT.cells, str]
      · rw [VT.At]
        exact ⟨bounds_i64 w0, bounds_i64 w1, by have : reachBytes ≤ 140737488355328 := reach_le; omega, hb, hcell, atL_of hat⟩
set_option maxRecDepth 100000 in
theorem open_val {H : Type} {enc : TypeId × Value → H} {W : World} {base : Nat} {v : Value} {d : DataW H} {p : List MemPlace} (hv : Value.okWide Tryz.prog W .any base 26 v) (h : DataW.Trod enc Tryz.prog W 0 (fun _ => true) true 26 v d p)
    (hw : ∀ k ∈ d.weights Tryz.prog 26, k ≤ reachBytes) : ∃ u : VT, v = .agg u.cells.toArray ∧ u.At W.heap.size W := by
  obtain ⟨fuel, hf⟩ := h
  obtain ⟨u, hu, hat⟩ := open_cells fuel _ _ hf hw
  refine ⟨u, ?_, hat⟩
  have h4 := u.cells_len
  cases v with
  | agg cs =>
    have : cs.toList = u.cells := hu
    rw [← this]
  | _ =>
    have h1 : 1 = u.cells.length := congrArg List.length hu
    omega
end Go.Proofs.YtnfobnnbeefeeaaGreatDoor.Wi
