/- fits, small: the sizes with which events are tried. -/
import Derived.Test.YtnfobnnbeefeeaaGreatDoorGO
import Derived.Test.YtnfobnnbeefeeaaGreatDoorG6
namespace Go.Proofs.YtnfobnnbeefeeaaGreatDoor.Wi
open Go Go.RowKit
set_option linter.unusedVariables false
set_option linter.unusedSimpArgs false
def SmAnyE (x : VT) : Prop := ∀ (N q d : Nat) (n : Int) (w : World), d ≤ 13 → 0 ≤ n → n ≤ 400 → x.At N w → N ≤ w.heap.size → N ≤ q → LeftAt w q n → Calls Tryz.prog 48 #[.agg x.cells.toArray, .int .i64 (d : Int), .pointer (some ⟨q, 0, none⟩)] w (SmPost w q)
def smRelE (w : World) (q : Nat) (len : Nat) (i : Value) (wr : World) : Prop := ∃ (j : Nat) (n : Int), i = .int .i64 (j : Int) ∧ j ≤ len ∧ 0 ≤ n ∧ n ≤ 400 ∧ LeftAt wr q n ∧ Fr w wr q none
set_option maxHeartbeats 8000000 in
set_option maxRecDepth 100000 in
theorem fitsV_any : ∀ v : VT, SmAnyE v := by
  intro v
  induction v using VT.ind with
  | h k n s ao c l ih =>
    intro N q d m w hd hm0 hm1 hv hN hq hL
    obtain ⟨hk, hn, hs, hll⟩ := hv.fit
    have hql := lt_of_rowK hL
    obtain ⟨w1, hw1⟩ : ∃ w1, w1 = w.alloc (.cells (VT.mk k n s ao c l).cells.toArray 26) := ⟨_, rfl⟩
    obtain ⟨g, hg⟩ : ∃ g, g = w.heap.size := ⟨_, rfl⟩
    have hb1 : Below w.heap.size w w1 := by rw [hw1]; exact (Below.refl _ _).alloc (Nat.le_refl _) _
    have nk : w1.heap[g]? = some (.cells (VT.mk k n s ao c l).cells.toArray 26 (0, 0)) := by rw [hw1, hg]; exact heap_alloc_new _ _
    have hL1 : LeftAt w1 q m := (hb1.block q hql).trans hL
    have c1 : w1.cell? ⟨q, 0, none⟩ = some (.int .i64 m) := by rw [cell_of_rowW w1 q 0 _ _ _ hL1]; rfl
    have f1 : w1.frozen? ⟨q, 0, none⟩ = false := frozen_of_row w1 q 0 _ _ hL1
    obtain ⟨w2, hw2⟩ : ∃ w2, w2 = w1.setCell ⟨q, 0, none⟩ (.int .i64 (m - 1)) := ⟨_, rfl⟩
    have hL2 : LeftAt w2 q (m - 1) := by rw [hw2]; exact Go.Joins.block_setCell (i := 0) hL1 _
    have hqg : q ≠ g := by omega
    have nk2 : w2.heap[g]? = some (.cells (VT.mk k n s ao c l).cells.toArray 26 (0, 0)) := by rw [hw2]; exact (Below.heap_setCell w1 ⟨q, 0, none⟩ _ g (Ne.symm hqg)).trans nk
    have hf2 : Fr w w2 q none := by rw [hw2, hw1]; exact ((Fr.refl w q none).alloc _).set 0 _
    have c2 : w2.cell? ⟨q, 0, none⟩ = some (.int .i64 (m - 1)) := by rw [cell_of_rowW w2 q 0 _ _ _ hL2]; rfl
    have d2 : w2.cell? ⟨g, 2, none⟩ = some (.string (str s)) := by rw [cell_of_rowW w2 g 2 _ _ _ nk2]; rfl
    have d3 : w2.cell? ⟨g, 3, none⟩ = some (.slice ao l.length c) := by rw [cell_of_rowW w2 g 3 _ _ _ nk2]; rfl
    have hsz := str_sizeX s
    have hw1b := show w1 = w.alloc (.cells #[.int .i64 k, .int .i64 n, .string (str s), .slice ao l.length c] 26) from hw1
    show Calls Tryz.prog 48 #[.agg #[.int .i64 k, .int .i64 n, .string (str s), .slice ao l.length c], .int .i64 (d : Int), .pointer (some ⟨q, 0, none⟩)] w _
    obtain ⟨S, hS⟩ : ∃ S, S = str s := ⟨_, rfl⟩
    rw [← hS] at d2 hsz hw1b ⊢
    have HW1 := Lib.hid hw1b
    have HG := Lib.hid hg
    have HW2 := Lib.hid hw2
    have HF2 := Lib.hid hf2
    have HL2 := Lib.hid hL2
    have HV := Lib.hid hv
    have IH := Lib.hid ih
    have BAD := Lib.hid (show SmPost w q (.returned (.bool false)) w2 from ⟨false, m - 1, rfl, by omega, by omega, (fun h => by cases h), hL2, hf2⟩)
    clear hw1 hw1b hg hw2 hb1 nk hL1 hL2 nk2 hf2 hv ih hS hL hqg
    go_enter Tryz.func48, Tryz.ntmps48
    go_upto_region 1 with fail
    rw [← HW1.out, ← HG.out]
    go_upto_region 2 with fail
    rw [← HW2.out]
    clear c1 f1
    by_cases h1 : m - 1 < 0
    · go_wp2_with fail
      go_ret
      exact BAD.out
    by_cases h2 : 12 < d
    · have h2' : (12 : Int) < (d : Int) := by omega
      go_wp2_with fail
      go_ret
      exact BAD.out
    have h2' : ¬ (12 : Int) < (d : Int) := by omega
    by_cases h3 : 1100 < s.length
    · have h3' : (1100 : Int) < (S.size : Int) := by omega
      go_wp2_with fail
      go_ret
      exact BAD.out
    have h3' : ¬ (1100 : Int) < (S.size : Int) := by omega
    have R0 := Lib.hid (show smRelE w q l.length (.int .i64 0) w2 from ⟨0, m - 1, rfl, Nat.zero_le _, by omega, by omega, HL2.out, HF2.out⟩)
    have ed : (d : Int) + 1 = ((d + 1 : Nat) : Int) := rfl
    obtain ⟨d1, hd1⟩ : ∃ d1, d1 = d + 1 := ⟨_, rfl⟩
    rw [← hd1] at ed
    have hd13 : d1 ≤ 13 := by omega
    have ED := Lib.hid ed
    clear ed hd1
    go_wp2_with fail
    go_loopw [31] (fun i wr => smRelE w q l.length i wr) (fun i _ => l.length - (intOf i).toNat)
    case atStart => exact R0.out
    case round =>
      obtain ⟨wq, rfl⟩ : ∃ wq : World, wq = wr := ⟨_, rfl⟩
      obtain ⟨j, mm, rfl, hj, hmm0, hmm1, hLq, hFq⟩ := hrel
      have q0 : (0 : Int) ≤ (j : Int) := by omega
      have HLq := Lib.hid hLq
      have HFq := Lib.hid hFq
      clear hLq hFq R0 BAD c2 d2 d3
      by_cases hjl : j < l.length
      · have q1 : (j : Int) < (l.length : Int) := by omega
        obtain ⟨x, hx⟩ : ∃ x, l[j]? = some x := ⟨_, List.getElem?_eq_getElem hjl⟩
        obtain ⟨hxv, ad, rfl, had, hxc⟩ := HV.out.elem hx
        have nb := HFq.out.nb hq hN
        have hNq := Nat.le_trans hN HFq.out.size
        have KX := Lib.hid (hxc wq nb)
        have HXM := List.mem_of_getElem? hx
        obtain ⟨w5, hw5⟩ : ∃ bx, bx = wq.alloc (.cells x.cells.toArray 26) := ⟨_, rfl⟩
        obtain ⟨g5, hg5⟩ : ∃ bx, bx = wq.heap.size := ⟨_, rfl⟩
        have bw5 : Below wq.heap.size wq w5 := by rw [hw5]; exact (Below.refl _ _).alloc (Nat.le_refl _) _
        have nw5 : w5.heap[g5]? = some (.cells x.cells.toArray 26 (0, 0)) := by rw [hw5, hg5]; exact heap_alloc_new _ _
        have Kw5 := Lib.hid (rowK nw5)
        have Hw5 := Lib.hid hw5
        have Hg5 := Lib.hid hg5
        have Bw5 := Lib.hid bw5
        have Nw5 := Lib.hid nw5
        clear hw5 hg5 bw5 nw5
        have hL5 : LeftAt w5 q mm := (Bw5.out.block q (lt_of_rowK HLq.out)).trans HLq.out
        have CX := Lib.hid (IH.out x HXM N q d1 mm w5 hd13 hmm0 hmm1 (hxv.keep fun k hk => (Bw5.out.block k (by omega)).trans (nb k hk)) (Nat.le_trans hNq Bw5.out.size) hq hL5)
        have HF5 := Lib.hid (show Fr w w5 q none by rw [Hw5.out]; exact HFq.out.alloc _)
        clear hxv hxc had hx nb hNq hL5 HXM
        go_wp2_with (first
          | (with_reducible show wpList _ _ _ _ _ _; refine wpList_load_allW rfl 26 (.tmp 33) rfl _ rfl x.cells _ KX.out Tryz.underlying26 rfl (Tryz.valSize x) ?_)
          | (with_reducible show wpList _ _ _ _ _ _; refine wpList_store_newW rfl 26 (.tmp 8) (.tmp 34) rfl 26 _ x.cells.toArray rfl rfl (Tryz.valSize' x) (by with_unfolding_all exact VT.four x) x.cells_one ?_; rw [← Hw5.out, ← Hg5.out])
          | (with_reducible show wpList _ _ _ _ _ _; refine wpList_load_allW rfl 26 (.tmp 8) rfl ⟨g5,0,none⟩ rfl x.cells _ Kw5.out Tryz.underlying26 rfl (Tryz.valSize x) ?_))
        rw [ED.out]
        refine CX.out.mono ?_
        rintro e w6 ⟨b, m6, rfl, h60, h61, h62, hL6, hF6⟩
        have hFw := HF5.out.trans (Or.inl rfl) hF6
        cases b
        · have RL := Lib.hid (show SmPost w q (.returned (.bool false)) w6 from ⟨false, m6, rfl, h60, h61, (fun h => by cases h), hL6, hFw⟩)
          clear hL6 hF6 hFw
          go_wp2_with fail
          go_ret
          exact RL.out
        · have RL := Lib.hid (show smRelE w q l.length (.int .i64 ((j + 1 : Nat) : Int)) w6 from ⟨j + 1, m6, rfl, hjl, h62 rfl, h61, hL6, hFw⟩)
          clear hL6 hF6 hFw
          go_wp2_with fail
          exact ⟨RL.out, by simp [intOf]; omega⟩
      · have q1 : ¬ (j : Int) < (l.length : Int) := by omega
        have RL := Lib.hid (show SmPost w q (.returned (.bool true)) wq from ⟨true, mm, rfl, by omega, hmm1, (fun _ => hmm0), HLq.out, HFq.out⟩)
        go_wp2_with fail
        go_ret
        exact RL.out
def ecs (l : List Ev) : List Value := (l.map Ev.cells).flatten
theorem ecs_len : ∀ l : List Ev, (ecs l).length = l.length * 11
  | [] => rfl
  | x :: l => by
    have h := ecs_len l
    have h2 := x.cells_len
    simp only [ecs, List.map_cons, List.flatten_cons, List.length_append, List.length_cons] at h ⊢
    omega
theorem ecs_at : ∀ (l : List Ev) (i : Nat) (x : Ev), l[i]? = some x → ∀ (j : Nat) (v : Value), x.cells[j]? = some v → (ecs l)[i * 11 + j]? = some v
  | [], i, x, h => by simp at h
  | y :: l, 0, x, h => fun j v hj => by
    obtain rfl : y = x := by simpa using h
    have := (List.getElem?_eq_some_iff.1 hj).1
    simp only [ecs, List.map_cons, List.flatten_cons, Nat.zero_mul, Nat.zero_add]
    rw [List.getElem?_append_left this]
    exact hj
  | y :: l, i + 1, x, h => fun j v hj => by
    have ih := ecs_at l i x (by simpa using h) j v hj
    have h4 := y.cells_len
    simp only [ecs, List.map_cons, List.flatten_cons] at ih ⊢
    rw [List.getElem?_append_right (by omega), h4, show (i + 1) * 11 + j - 11 = i * 11 + j by omega]
    exact ih
/-- Events in a row, that lie below N. -/
structure EL (N : Nat) (w : World) (ao : Option Addr) (l : List Ev) : Prop where
  at_ : ∀ x ∈ l, x.At N w
  row : l ≠ [] → ∃ ad, ao = some ad ∧ ad.block < N ∧ ∀ (j : Nat) v, (ecs l)[j]? = some v → w.cell? (ad.add j) = some v
  len : l.length ≤ 140737488355328
theorem EL.keep {N : Nat} {w w' : World} {ao : Option Addr} {l : List Ev} (h : EL N w ao l) (hk : ∀ k, k < N → w'.heap[k]? = w.heap[k]?) : EL N w' ao l :=
  ⟨fun x hx => (h.at_ x hx).keep hk, fun hl => by
    obtain ⟨ad, e, hb, hc⟩ := h.row hl
    refine ⟨ad, e, hb, fun j v hj => ?_⟩
    have e2 : w'.cell? (ad.add j) = w.cell? (ad.add j) := World.cell?_of_block (by rw [addr_blockK]; exact hk _ hb)
    rw [e2]
    exact hc j v hj, h.len⟩
theorem EL.below {N : Nat} {w w' : World} {ao : Option Addr} {l : List Ev} (h : EL N w ao l) (hb : Below N w w') : EL N w' ao l := h.keep fun k hk => hb.block k hk
theorem EL.mono {N N' : Nat} {w : World} {ao : Option Addr} {l : List Ev} (h : EL N w ao l) (hN : N ≤ N') : EL N' w ao l :=
  ⟨fun x hx => (h.at_ x hx).mono hN, fun hl => by obtain ⟨ad, e, hb, hc⟩ := h.row hl; exact ⟨ad, e, Nat.lt_of_lt_of_le hb hN, hc⟩, h.len⟩
theorem EL.elem {N : Nat} {w : World} {ao : Option Addr} {l : List Ev} (h : EL N w ao l) {i : Nat} {x : Ev} (hx : l[i]? = some x) :
    x.At N w ∧ ∃ ad, ao = some ad ∧ ad.block < N ∧ ∀ W : World, (∀ k, k < N → W.heap[k]? = w.heap[k]?) → ∀ (j : Nat) v, x.cells[j]? = some v → W.cell? ((ad.add (i * 11)).add j) = some v := by
  obtain ⟨ad, e, hb, hc⟩ := h.row (fun e => by rw [e] at hx; simp at hx)
  refine ⟨h.at_ x (List.mem_of_getElem? hx), ad, e, hb, fun W hW j v hj => ?_⟩
  have e2 : W.cell? (ad.add (i * 11 + j)) = w.cell? (ad.add (i * 11 + j)) := World.cell?_of_block (by rw [addr_blockK]; exact hW _ hb)
  rw [Addr.add_add, e2]
  exact hc _ v (ecs_at l i x hx j v hj)
theorem EL.one {w : World} {x : Ev} (hx : x.At w.heap.size w) : EL (w.alloc (.cells x.cells.toArray 28)).heap.size (w.alloc (.cells x.cells.toArray 28)) (some ⟨w.heap.size, 0, none⟩) [x] := by
  have hb : Below w.heap.size w (w.alloc (.cells x.cells.toArray 28)) := (Below.refl _ _).alloc (Nat.le_refl _) _
  have hs : w.heap.size < (w.alloc (.cells x.cells.toArray 28)).heap.size := by simp
  refine ⟨fun y hy => ?_, fun _ => ⟨_, rfl, hs, fun j v hj => ?_⟩, by simp⟩
  · rw [List.mem_singleton.1 hy]; exact (hx.below hb).mono (Nat.le_of_lt hs)
  · rw [Addr.add_mid, Nat.zero_add, cell_of_rowW _ w.heap.size j _ _ _ (heap_alloc_new w _)]
    simpa [ecs] using hj
theorem bs1E (x : Ev) : List.foldl (fun cs (x : Value × Nat) => cs.setIfInBounds x.snd x.fst) #[Value.int IntKind.i64 0, Value.int IntKind.i64 0, Value.int IntKind.i64 0, Value.int IntKind.i64 0, Value.int IntKind.i64 0, Value.string { data := #[] }, Value.string { data := #[] }, Value.int IntKind.i64 0, Value.int IntKind.i64 0, Value.string { data := #[] }, Value.slice none 0 0] x.cells.zipIdx = x.cells.toArray := by
  obtain ⟨x1, x2, x3, x4, x5, x6, x7, xv⟩ := x
  obtain ⟨vk, vn, vs, va, vc, vl⟩ := xv
  simp [Ev.cells, VT.cells]
def esRel (w2 : World) (q : Nat) (len : Nat) (i : Value) (wr : World) : Prop := ∃ (j : Nat) (n : Int), i = .int .i64 (j : Int) ∧ j ≤ len ∧ 0 ≤ n ∧ n ≤ 400 ∧ LeftAt wr q n ∧ Fr w2 wr q none
set_option maxHeartbeats 8000000 in
set_option maxRecDepth 100000 in
theorem esmall_any (ao : Option Addr) (c : Nat) (l : List Ev) (N : Nat) (w : World) (hv : EL N w ao l) (hN : N ≤ w.heap.size) :
    Calls Tryz.prog 13 #[.slice ao l.length c] w fun e w' => AnB e ∧ Below w.heap.size w w' := by
  obtain ⟨w2, hw2⟩ : ∃ w2, w2 = w.alloc (.cells #[.int .i64 400] 3) := ⟨_, rfl⟩
  obtain ⟨q, hq⟩ : ∃ q, q = w.heap.size := ⟨_, rfl⟩
  have hb2 : Below w.heap.size w w2 := by rw [hw2]; exact (Below.refl _ _).alloc (Nat.le_refl _) _
  have hL2 : LeftAt w2 q 400 := by rw [hw2, hq]; exact heap_alloc_new _ _
  have hll := hv.len
  have HV := Lib.hid (hv.below (hb2.mono hN))
  have R0 := Lib.hid (show esRel w2 q l.length (.int .i64 0) w2 from ⟨0, 400, rfl, Nat.zero_le _, by omega, by omega, hL2, Fr.refl _ _ _⟩)
  have HN2 := Lib.hid (Nat.le_trans hN hb2.size)
  have HQ := Lib.hid (show N ≤ q ∧ w.heap.size ≤ q by omega)
  have HW2 := Lib.hid hw2
  have HQE := Lib.hid hq
  have HB2 := Lib.hid hb2
  have FIN := Lib.hid (show ∀ W, Fr w2 W q none → Below w.heap.size w W from fun W f => fr_new hb2 hb2.size f (by omega) (fun g hg => by cases hg))
  clear hw2 hq hb2 hL2 hv
  go_enter Tryz.func13, Tryz.ntmps13
  go_upto_region 2 with fail
  rw [← HW2.out, ← HQE.out]
  go_wp2_with fail
  go_loopw [8] (fun i wr => esRel w2 q l.length i wr) (fun i _ => l.length - (intOf i).toNat)
  case atStart => exact R0.out
  case round =>
    obtain ⟨wq, rfl⟩ : ∃ wq : World, wq = wr := ⟨_, rfl⟩
    obtain ⟨j, mm, rfl, hj, hmm0, hmm1, hLq, hFq⟩ := hrel
    have q0 : (0 : Int) ≤ (j : Int) := by omega
    have HLq := Lib.hid hLq
    have HFq := Lib.hid hFq
    clear hLq hFq R0
    by_cases hjl : j < l.length
    · have q1 : (j : Int) < (l.length : Int) := by omega
      obtain ⟨x, hx⟩ : ∃ x, l[j]? = some x := ⟨_, List.getElem?_eq_getElem hjl⟩
      obtain ⟨hxv, ad, rfl, had, hxc⟩ := HV.out.elem hx
      have nb := HFq.out.nb HQ.out.1 HN2.out
      have hNq := Nat.le_trans HN2.out HFq.out.size
      have KX := Lib.hid (hxc wq nb)
      obtain ⟨w5, hw5⟩ : ∃ bx, bx = wq.alloc (.cells x.cells.toArray 28) := ⟨_, rfl⟩
      obtain ⟨g5, hg5⟩ : ∃ bx, bx = wq.heap.size := ⟨_, rfl⟩
      have bw5 : Below wq.heap.size wq w5 := by rw [hw5]; exact (Below.refl _ _).alloc (Nat.le_refl _) _
      have nw5 : w5.heap[g5]? = some (.cells x.cells.toArray 28 (0, 0)) := by rw [hw5, hg5]; exact heap_alloc_new _ _
      have Kw5 := Lib.hid (rowE nw5)
      have Cw5 := Lib.hid (evC nw5)
      have Hw5 := Lib.hid hw5
      have Hg5 := Lib.hid hg5
      have Bw5 := Lib.hid bw5
      have Nw5 := Lib.hid nw5
      clear hw5 hg5 bw5 nw5
      have hL5 : LeftAt w5 q mm := (Bw5.out.block q (lt_of_rowK HLq.out)).trans HLq.out
      have CX := Lib.hid (fitsV_any x.val N q 0 mm w5 (by omega) hmm0 hmm1 (hxv.val.keep fun k hk => (Bw5.out.block k (by omega)).trans (nb k hk)) (Nat.le_trans hNq Bw5.out.size) HQ.out.1 hL5)
      rw [show ((0 : Nat) : Int) = 0 from rfl] at CX
      have HF5 := Lib.hid (show Fr w2 w5 q none by rw [Hw5.out]; exact HFq.out.alloc _)
      have z5 := str_sizeX x.name
      have z6 := str_sizeX x.text
      have c5 := Cw5.out.c5
      have c6 := Cw5.out.c6
      obtain ⟨S, hS⟩ : ∃ S, S = str x.name := ⟨_, rfl⟩
      obtain ⟨T, hT⟩ : ∃ S, S = str x.text := ⟨_, rfl⟩
      rw [← hS] at z5 c5
      rw [← hT] at z6 c6
      obtain ⟨L5, hl5⟩ : ∃ n, n = x.name.length := ⟨_, rfl⟩
      obtain ⟨L6, hl6⟩ : ∃ n, n = x.text.length := ⟨_, rfl⟩
      rw [← hl5] at z5
      rw [← hl6] at z6
      have KV := Lib.hid Cw5.out.cv
      have BAD := Lib.hid (FIN.out w5 HF5.out)
      clear hxv hxc had hx nb hNq hL5 hS hT hl5 hl6
      have Z5 := Lib.hid z5
      have Z6 := Lib.hid z6
      clear z5 z6
      go_upto_region 5 with (first
        | (with_reducible show wpList _ _ _ _ _ _; refine wpList_load_allW rfl 28 (.tmp 10) rfl _ rfl x.cells _ KX.out Tryz.underlying28 rfl (Tryz.evSize x) ?_)
        | (with_reducible show wpList _ _ _ _ _ _; refine wpList_store_newW rfl 28 (.tmp 5) (.tmp 11) rfl 28 _ x.cells.toArray rfl rfl (Tryz.evSize' x) (by with_unfolding_all exact Ev.eleven x) x.cells_one ?_; rw [← Hw5.out, ← Hg5.out]))
      have z5 := Z5.out
      have z6 := Z6.out
      by_cases h1 : 200 < L5
      · have h1' : (200 : Int) < (S.size : Int) := by omega
        go_wp2_with fail
        go_ret
        exact ⟨⟨false, rfl⟩, BAD.out⟩
      have d1 : decide ((200 : Int) < (S.size : Int)) = false := decide_eq_false (by omega)
      by_cases h2 : 200 < L6
      · have h2' : (200 : Int) < (T.size : Int) := by omega
        go_wp2_with fail
        go_ret
        exact ⟨⟨false, rfl⟩, BAD.out⟩
      have d2 : decide ((200 : Int) < (T.size : Int)) = false := decide_eq_false (by omega)
      clear z5 z6
      go_wp2_with (with_reducible show wpList _ _ _ _ _ _; refine wpList_loadWanted (by with_unfolding_all rfl) 26 (.tmp 23) rfl ⟨g5,7,none⟩ (by with_unfolding_all rfl) x.val.cells _ KV.out Tryz.underlying26 rfl (Tryz.valSize x.val) ?_)
      refine CX.out.mono ?_
      rintro e w6 ⟨b, m6, rfl, h60, h61, h62, hL6, hF6⟩
      have hFw := HF5.out.trans (Or.inl rfl) hF6
      cases b
      · have RL := Lib.hid (FIN.out w6 hFw)
        clear hL6 hF6 hFw
        go_wp2_with fail
        go_ret
        exact ⟨⟨false, rfl⟩, RL.out⟩
      · have RL := Lib.hid (show esRel w2 q l.length (.int .i64 ((j + 1 : Nat) : Int)) w6 from ⟨j + 1, m6, rfl, hjl, h62 rfl, h61, hL6, hFw⟩)
        clear hL6 hF6 hFw
        go_wp2_with fail
        exact ⟨RL.out, by simp [intOf]; omega⟩
    · have q1 : ¬ (j : Int) < (l.length : Int) := by omega
      have RL := Lib.hid (FIN.out wq HFq.out)
      go_wp2_with fail
      go_ret
      exact ⟨⟨true, rfl⟩, RL.out⟩
/-- One event: what small says of it. -/
theorem esmall_one {x : Ev} {w : World} (hx : x.At w.heap.size w) : Calls Tryz.prog 13 #[.slice (some ⟨w.heap.size, 0, none⟩) 1 1] (w.alloc (.cells x.cells.toArray 28)) fun e w' => AnB e ∧ Below w.heap.size w w' := by
  have hb : Below w.heap.size w (w.alloc (.cells x.cells.toArray 28)) := (Below.refl _ _).alloc (Nat.le_refl _) _
  refine (esmall_any (some ⟨w.heap.size, 0, none⟩) 1 [x] _ _ (EL.one hx) (Nat.le_refl _)).mono ?_
  rintro e w' ⟨h1, h2⟩
  exact ⟨h1, hb.trans (h2.mono hb.size)⟩
end Go.Proofs.YtnfobnnbeefeeaaGreatDoor.Wi
