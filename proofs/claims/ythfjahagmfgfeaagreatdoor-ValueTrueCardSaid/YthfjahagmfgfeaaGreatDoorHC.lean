/- What fits says: how deep values are nested, whatever their kind. -/
import Derived.Test.YthfjahagmfgfeaaGreatDoorH4
namespace Go.Proofs.YthfjahagmfgfeaaGreatDoor.Wi
open Go Go.RowKit
set_option linter.unusedVariables false
set_option linter.unusedSimpArgs false
mutual
/-- How deep a value is, whatever its kind. -/
def VT.nest : VT → Nat
  | .mk _ _ _ _ _ l => nestL l
def nestL : List VT → Nat
  | [] => 0
  | x :: l => max (x.nest + 1) (nestL l)
end
theorem nestL_mem : ∀ {l : List VT}, ∀ x ∈ l, x.nest + 1 ≤ nestL l
  | y :: l, x, h => by
    rw [nestL]
    rcases List.mem_cons.1 h with rfl | h
    · omega
    · have := nestL_mem x h; omega
theorem nestL_le : ∀ {l : List VT} {m : Nat}, (∀ x ∈ l, x.nest + 1 ≤ m) → nestL l ≤ m
  | [], m, _ => Nat.zero_le _
  | y :: l, m, h => by
    rw [nestL]
    have h1 := h y (by simp)
    have h2 := nestL_le (l := l) (m := m) fun x hx => h x (by simp [hx])
    omega
theorem nest_le {k n : Int} {s : List UInt8} {ao : Option Addr} {c d : Nat} {l : List VT} (hd : d ≤ 12) (h : ∀ x ∈ l, x.nest + (d + 1) ≤ 12) : (VT.mk k n s ao c l).nest + d ≤ 12 := by
  have := nestL_le (l := l) (m := 12 - d) fun x hx => by have := h x hx; omega
  rw [VT.nest]
  omega
theorem nest_dpr : ∀ (v : VT) (m : Nat), v.nest < m → v.dpr m = false := by
  intro v
  induction v using VT.ind with
  | h k n s ao c l ih =>
    intro m h
    rw [VT.nest] at h
    rw [VT.dpr]
    by_cases k3 : k = 3
    · rw [if_pos k3, if_neg (by omega)]
      have key : ∀ q : List VT, (∀ x ∈ q, x ∈ l) → dprL q (m - 1) = false := by
        intro q
        induction q with
        | nil => intro _; rw [dprL]
        | cons x q ihq =>
          intro hq
          rw [dprL, ih x (hq x (by simp)) (m - 1) (by have := nestL_mem x (hq x (by simp)); omega), ihq fun y hy => hq y (by simp [hy])]
          rfl
      exact key l fun x hx => hx
    · rw [if_neg k3]
def SmPost2 (P : Prop) (w : World) (q : Nat) (e : Ending) (w' : World) : Prop := ∃ (b : Bool) (n : Int), e = .returned (.bool b) ∧ -1 ≤ n ∧ n ≤ 400 ∧ (b = true → 0 ≤ n) ∧ LeftAt w' q n ∧ Fr w w' q none ∧ (b = true → P)
def SmAny2 (x : VT) : Prop := ∀ (N q d : Nat) (n : Int) (w : World), d ≤ 13 → 0 ≤ n → n ≤ 400 → x.At N w → N ≤ w.heap.size → N ≤ q → LeftAt w q n → Calls Tryz.prog 46 #[.agg x.cells.toArray, .int .i64 (d : Int), .pointer (some ⟨q, 0, none⟩)] w (SmPost2 (x.nest + d ≤ 12) w q)
def smRel2 (w : World) (q : Nat) (l : List VT) (d : Nat) (i : Value) (wr : World) : Prop := ∃ (j : Nat) (n : Int), i = .int .i64 (j : Int) ∧ j ≤ l.length ∧ 0 ≤ n ∧ n ≤ 400 ∧ LeftAt wr q n ∧ Fr w wr q none ∧ ∀ x ∈ l.take j, x.nest + (d + 1) ≤ 12
set_option maxHeartbeats 8000000 in
set_option maxRecDepth 100000 in
theorem small2_any : ∀ v : VT, SmAny2 v := by
  intro v
  induction v using VT.ind with
  | h k n s ao c l ih =>
    intro N q d m w hd hm0 hm1 hv hN hq hL
    obtain ⟨hk, hn, hs, hll⟩ := hv.fit
    have hql := lt_of_rowK hL
    obtain ⟨w1, hw1⟩ : ∃ w1, w1 = w.alloc (.cells (VT.mk k n s ao c l).cells.toArray 24) := ⟨_, rfl⟩
    obtain ⟨g, hg⟩ : ∃ g, g = w.heap.size := ⟨_, rfl⟩
    have hb1 : Below w.heap.size w w1 := by rw [hw1]; exact (Below.refl _ _).alloc (Nat.le_refl _) _
    have nk : w1.heap[g]? = some (.cells (VT.mk k n s ao c l).cells.toArray 24 (0, 0)) := by rw [hw1, hg]; exact heap_alloc_new _ _
    have hL1 : LeftAt w1 q m := (hb1.block q hql).trans hL
    have c1 : w1.cell? ⟨q, 0, none⟩ = some (.int .i64 m) := by rw [cell_of_rowW w1 q 0 _ _ _ hL1]; rfl
    have f1 : w1.frozen? ⟨q, 0, none⟩ = false := frozen_of_row w1 q 0 _ _ hL1
    obtain ⟨w2, hw2⟩ : ∃ w2, w2 = w1.setCell ⟨q, 0, none⟩ (.int .i64 (m - 1)) := ⟨_, rfl⟩
    have hL2 : LeftAt w2 q (m - 1) := by rw [hw2]; exact Go.Joins.block_setCell (i := 0) hL1 _
    have hqg : q ≠ g := by omega
    have nk2 : w2.heap[g]? = some (.cells (VT.mk k n s ao c l).cells.toArray 24 (0, 0)) := by rw [hw2]; exact (Below.heap_setCell w1 ⟨q, 0, none⟩ _ g (Ne.symm hqg)).trans nk
    have hf2 : Fr w w2 q none := by rw [hw2, hw1]; exact ((Fr.refl w q none).alloc _).set 0 _
    have c2 : w2.cell? ⟨q, 0, none⟩ = some (.int .i64 (m - 1)) := by rw [cell_of_rowW w2 q 0 _ _ _ hL2]; rfl
    have d2 : w2.cell? ⟨g, 2, none⟩ = some (.string (str s)) := by rw [cell_of_rowW w2 g 2 _ _ _ nk2]; rfl
    have d3 : w2.cell? ⟨g, 3, none⟩ = some (.slice ao l.length c) := by rw [cell_of_rowW w2 g 3 _ _ _ nk2]; rfl
    have hsz := str_sizeX s
    have hw1b := show w1 = w.alloc (.cells #[.int .i64 k, .int .i64 n, .string (str s), .slice ao l.length c] 24) from hw1
    show Calls Tryz.prog 46 #[.agg #[.int .i64 k, .int .i64 n, .string (str s), .slice ao l.length c], .int .i64 (d : Int), .pointer (some ⟨q, 0, none⟩)] w _
    obtain ⟨S, hS⟩ : ∃ S, S = str s := ⟨_, rfl⟩
    rw [← hS] at d2 hsz hw1b ⊢
    have HW1 := Lib.hid hw1b
    have HG := Lib.hid hg
    have HW2 := Lib.hid hw2
    have HF2 := Lib.hid hf2
    have HL2 := Lib.hid hL2
    have HV := Lib.hid hv
    have IH := Lib.hid ih
    have BAD := Lib.hid (show SmPost2 ((VT.mk k n s ao c l).nest + d ≤ 12) w q (.returned (.bool false)) w2 from ⟨false, m - 1, rfl, by omega, by omega, (fun h => by cases h), hL2, hf2, fun h => by cases h⟩)
    clear hw1 hw1b hg hw2 hb1 nk hL1 hL2 nk2 hf2 hv ih hS hL hqg
    go_enter Tryz.func46, Tryz.ntmps46
    go_upto_region 1 with fail
    rw [← HW1.out, ← HG.out]
    go_upto_region 2 with fail
    rw [← HW2.out]
    clear c1 f1
    by_cases h1 : m - 1 < 0
    · go_wp2_with fail
      go_ret
      exact BAD.out
    by_cases h2 : 12 < d
    · have h2' : (12 : Int) < (d : Int) := by omega
      go_wp2_with fail
      go_ret
      exact BAD.out
    have h2' : ¬ (12 : Int) < (d : Int) := by omega
    by_cases h3 : 1100 < s.length
    · have h3' : (1100 : Int) < (S.size : Int) := by omega
      go_wp2_with fail
      go_ret
      exact BAD.out
    have h3' : ¬ (1100 : Int) < (S.size : Int) := by omega
    have R0 := Lib.hid (show smRel2 w q l d (.int .i64 0) w2 from ⟨0, m - 1, rfl, Nat.zero_le _, by omega, by omega, HL2.out, HF2.out, fun x hx => by simp at hx⟩)
    have ed : (d : Int) + 1 = ((d + 1 : Nat) : Int) := rfl
    obtain ⟨d1, hd1⟩ : ∃ d1, d1 = d + 1 := ⟨_, rfl⟩
    rw [← hd1] at ed
    have hd13 : d1 ≤ 13 := by omega
    have HD1 := Lib.hid hd1
    have ED := Lib.hid ed
    clear ed hd1
    go_wp2_with fail
    go_loopw [31] (fun i wr => smRel2 w q l d i wr) (fun i _ => l.length - (intOf i).toNat)
    case atStart => exact R0.out
    case round =>
      obtain ⟨wq, rfl⟩ : ∃ wq : World, wq = wr := ⟨_, rfl⟩
      obtain ⟨j, mm, rfl, hj, hmm0, hmm1, hLq, hFq, hnest⟩ := hrel
      have HNE := Lib.hid hnest
      clear hnest
      have q0 : (0 : Int) ≤ (j : Int) := by omega
      have HLq := Lib.hid hLq
      have HFq := Lib.hid hFq
      clear hLq hFq R0 BAD c2 d2 d3
      by_cases hjl : j < l.length
      · have q1 : (j : Int) < (l.length : Int) := by omega
        obtain ⟨x, hx⟩ : ∃ x, l[j]? = some x := ⟨_, List.getElem?_eq_getElem hjl⟩
        obtain ⟨hxv, ad, rfl, had, hxc⟩ := HV.out.elem hx
        have nb := HFq.out.nb hq hN
        have hNq := Nat.le_trans hN HFq.out.size
        have KX := Lib.hid (hxc wq nb)
        have HXM := List.mem_of_getElem? hx
        have HTK := Lib.hid (show l.take (j + 1) = l.take j ++ [x] by rw [List.take_add_one, hx]; rfl)
        obtain ⟨w5, hw5⟩ : ∃ bx, bx = wq.alloc (.cells x.cells.toArray 24) := ⟨_, rfl⟩
        obtain ⟨g5, hg5⟩ : ∃ bx, bx = wq.heap.size := ⟨_, rfl⟩
        have bw5 : Below wq.heap.size wq w5 := by rw [hw5]; exact (Below.refl _ _).alloc (Nat.le_refl _) _
        have nw5 : w5.heap[g5]? = some (.cells x.cells.toArray 24 (0, 0)) := by rw [hw5, hg5]; exact heap_alloc_new _ _
        have Kw5 := Lib.hid (rowK nw5)
        have Hw5 := Lib.hid hw5
        have Hg5 := Lib.hid hg5
        have Bw5 := Lib.hid bw5
        have Nw5 := Lib.hid nw5
        clear hw5 hg5 bw5 nw5
        have hL5 : LeftAt w5 q mm := (Bw5.out.block q (lt_of_rowK HLq.out)).trans HLq.out
        have CX := Lib.hid (IH.out x HXM N q d1 mm w5 hd13 hmm0 hmm1 (hxv.keep fun k hk => (Bw5.out.block k (by omega)).trans (nb k hk)) (Nat.le_trans hNq Bw5.out.size) hq hL5)
        have HF5 := Lib.hid (show Fr w w5 q none by rw [Hw5.out]; exact HFq.out.alloc _)
        clear hxv hxc had hx nb hNq hL5 HXM
        go_wp2_with (first
          | (with_reducible show wpList _ _ _ _ _ _; refine wpList_load_allW rfl 24 (.tmp 33) rfl _ rfl x.cells _ KX.out Tryz.underlying24 rfl (Tryz.valSize x) ?_)
          | (with_reducible show wpList _ _ _ _ _ _; refine wpList_store_newW rfl 24 (.tmp 8) (.tmp 34) rfl 24 _ x.cells.toArray rfl rfl (Tryz.valSize' x) (by with_unfolding_all exact VT.four x) x.cells_one ?_; rw [← Hw5.out, ← Hg5.out])
          | (with_reducible show wpList _ _ _ _ _ _; refine wpList_load_allW rfl 24 (.tmp 8) rfl ⟨g5,0,none⟩ rfl x.cells _ Kw5.out Tryz.underlying24 rfl (Tryz.valSize x) ?_))
        rw [ED.out]
        refine CX.out.mono ?_
        rintro e w6 ⟨b, m6, rfl, h60, h61, h62, hL6, hF6, hN6⟩
        have hFw := HF5.out.trans (Or.inl rfl) hF6
        cases b
        · have RL := Lib.hid (show SmPost2 ((VT.mk k n s (some ad) c l).nest + d ≤ 12) w q (.returned (.bool false)) w6 from ⟨false, m6, rfl, h60, h61, (fun h => by cases h), hL6, hFw, fun h => by cases h⟩)
          clear hL6 hF6 hFw hN6
          go_wp2_with fail
          go_ret
          exact RL.out
        · have RL := Lib.hid (show smRel2 w q l d (.int .i64 ((j + 1 : Nat) : Int)) w6 from ⟨j + 1, m6, rfl, hjl, h62 rfl, h61, hL6, hFw, fun z hz => by
            rw [HTK.out] at hz
            rcases List.mem_append.1 hz with hz | hz
            · exact HNE.out z hz
            · rw [List.mem_singleton.1 hz]; have := hN6 rfl; rw [HD1.out] at this; exact this⟩)
          clear hL6 hF6 hFw hN6
          go_wp2_with fail
          exact ⟨RL.out, by simp [intOf]; omega⟩
      · have q1 : ¬ (j : Int) < (l.length : Int) := by omega
        have RL := Lib.hid (show SmPost2 ((VT.mk k n s ao c l).nest + d ≤ 12) w q (.returned (.bool true)) wq from ⟨true, mm, rfl, by omega, hmm1, (fun _ => hmm0), HLq.out, HFq.out, fun _ => nest_le (by omega) fun z hz => HNE.out z (by rw [List.take_of_length_le (by omega)]; exact hz)⟩)
        go_wp2_with fail
        go_ret
        exact RL.out
def ftRel2 (w2 : World) (q : Nat) (l : List VT) (i : Value) (wr : World) : Prop := ∃ (j : Nat) (n : Int), i = .int .i64 (j : Int) ∧ j ≤ l.length ∧ 0 ≤ n ∧ n ≤ 400 ∧ LeftAt wr q n ∧ Fr w2 wr q none ∧ ∀ x ∈ l.take j, x.nest ≤ 12
def AnB2 (l : List VT) (e : Ending) : Prop := ∃ b, e = .returned (.bool b) ∧ (b = true → ∀ x ∈ l, x.nest ≤ 12)
set_option maxHeartbeats 8000000 in
set_option maxRecDepth 100000 in
theorem fits2_any (ao : Option Addr) (c : Nat) (l : List VT) (N : Nat) (w : World) (hv : (VT.mk 3 0 [] ao c l).At N w) (hN : N ≤ w.heap.size) :
    Calls Tryz.prog 13 #[.slice ao l.length c] w fun e w' => AnB2 l e ∧ Below w.heap.size w w' := by
  obtain ⟨w2, hw2⟩ : ∃ w2, w2 = w.alloc (.cells #[.int .i64 400] 3) := ⟨_, rfl⟩
  obtain ⟨q, hq⟩ : ∃ q, q = w.heap.size := ⟨_, rfl⟩
  have hb2 : Below w.heap.size w w2 := by rw [hw2]; exact (Below.refl _ _).alloc (Nat.le_refl _) _
  have hL2 : LeftAt w2 q 400 := by rw [hw2, hq]; exact heap_alloc_new _ _
  have hqq : w.heap.size ≤ q := by omega
  have hNq : N ≤ q := by omega
  have ll := hv.fit.2.2.2
  have HQ := Lib.hid hq
  have HW2 := Lib.hid hw2
  have HL2 := Lib.hid hL2
  have HB2 := Lib.hid hb2
  have HQQ := Lib.hid hqq
  have HV := Lib.hid hv
  have R0 := Lib.hid (show ftRel2 w2 q l (.int .i64 0) w2 from ⟨0, 400, rfl, Nat.zero_le _, by omega, by omega, hL2, Fr.refl _ _ _, fun x hx => by simp at hx⟩)
  clear hw2 hL2 hb2 hq hqq hv
  go_enter Tryz.func13, Tryz.ntmps13
  go_upto_region 2 with fail
  rw [← HW2.out, ← HQ.out]
  go_wp2_with fail
  go_loopw [8] (fun i wr => ftRel2 w2 q l i wr) (fun i _ => l.length - (intOf i).toNat)
  case atStart => exact R0.out
  case round =>
    obtain ⟨wq, rfl⟩ : ∃ wq : World, wq = wr := ⟨_, rfl⟩
    obtain ⟨j, mm, rfl, hj, hmm0, hmm1, hLq, hFq, hnest⟩ := hrel
    have HNE := Lib.hid hnest
    clear hnest
    have q0 : (0 : Int) ≤ (j : Int) := by omega
    have HLq := Lib.hid hLq
    have HFq := Lib.hid hFq
    have HBq := Lib.hid (fr_new HB2.out HB2.out.size hFq HQQ.out (fun g hg => by cases hg))
    clear hLq hFq R0
    by_cases hjl : j < l.length
    · have q1 : (j : Int) < (l.length : Int) := by omega
      obtain ⟨x, hx⟩ : ∃ x, l[j]? = some x := ⟨_, List.getElem?_eq_getElem hjl⟩
      obtain ⟨hxv, ad, rfl, had, hxc⟩ := HV.out.elem hx
      have HTK := Lib.hid (show l.take (j + 1) = l.take j ++ [x] by rw [List.take_add_one, hx]; rfl)
      have nb : ∀ k, k < N → wq.heap[k]? = w.heap[k]? := fun k hk => HBq.out.block k (by omega)
      have hNq2 := Nat.le_trans hN HBq.out.size
      have KX := Lib.hid (hxc wq nb)
      obtain ⟨w5, hw5⟩ : ∃ bx, bx = wq.alloc (.cells x.cells.toArray 24) := ⟨_, rfl⟩
      obtain ⟨g5, hg5⟩ : ∃ bx, bx = wq.heap.size := ⟨_, rfl⟩
      have bw5 : Below wq.heap.size wq w5 := by rw [hw5]; exact (Below.refl _ _).alloc (Nat.le_refl _) _
      have nw5 : w5.heap[g5]? = some (.cells x.cells.toArray 24 (0, 0)) := by rw [hw5, hg5]; exact heap_alloc_new _ _
      have Kw5 := Lib.hid (rowK nw5)
      have Hw5 := Lib.hid hw5
      have Hg5 := Lib.hid hg5
      have Bw5 := Lib.hid bw5
      have Nw5 := Lib.hid nw5
      clear hw5 hg5 bw5 nw5
      have hL5 : LeftAt w5 q mm := (Bw5.out.block q (lt_of_rowK HLq.out)).trans HLq.out
      have CX := Lib.hid (small2_any x N q 0 mm w5 (by decide) hmm0 hmm1 ((hxv.keep nb).below (Bw5.out.mono hNq2)) (Nat.le_trans hNq2 Bw5.out.size) hNq hL5)
      rw [show ((0 : Nat) : Int) = 0 from rfl] at CX
      have HF5 := Lib.hid (show Fr w2 w5 q none by rw [Hw5.out]; exact HFq.out.alloc _)
      clear hxv hxc had hx nb hNq2 hL5
      go_wp2_with (first
        | (with_reducible show wpList _ _ _ _ _ _; refine wpList_load_allW rfl 24 (.tmp 10) rfl _ rfl x.cells _ KX.out Tryz.underlying24 rfl (Tryz.valSize x) ?_)
        | (with_reducible show wpList _ _ _ _ _ _; refine wpList_store_newW rfl 24 (.tmp 5) (.tmp 11) rfl 24 _ x.cells.toArray rfl rfl (Tryz.valSize' x) (by with_unfolding_all exact VT.four x) x.cells_one ?_; rw [← Hw5.out, ← Hg5.out])
        | (with_reducible show wpList _ _ _ _ _ _; refine wpList_load_allW rfl 24 (.tmp 5) rfl ⟨g5,0,none⟩ rfl x.cells _ Kw5.out Tryz.underlying24 rfl (Tryz.valSize x) ?_))
      refine CX.out.mono ?_
      rintro e w6 ⟨b, m6, rfl, h60, h61, h62, hL6, hF6, hN6⟩
      have hFw := HF5.out.trans (Or.inl rfl) hF6
      cases b
      · have RL := Lib.hid (fr_new HB2.out HB2.out.size hFw HQQ.out (fun g hg => by cases hg))
        clear hL6 hF6 hFw hN6
        go_wp2_with fail
        go_ret
        exact ⟨⟨_, rfl, fun h => by cases h⟩, RL.out⟩
      · have RL := Lib.hid (show ftRel2 w2 q l (.int .i64 ((j + 1 : Nat) : Int)) w6 from ⟨j + 1, m6, rfl, hjl, h62 rfl, h61, hL6, hFw, fun z hz => by
          rw [HTK.out] at hz
          rcases List.mem_append.1 hz with hz | hz
          · exact HNE.out z hz
          · rw [List.mem_singleton.1 hz]; have := hN6 rfl; omega⟩)
        clear hL6 hF6 hFw hN6
        go_wp2_with fail
        exact ⟨RL.out, by simp [intOf]; omega⟩
    · have q1 : ¬ (j : Int) < (l.length : Int) := by omega
      go_wp2_with fail
      go_ret
      exact ⟨⟨_, rfl, fun _ z hz => HNE.out z (by rw [List.take_of_length_le (by omega)]; exact hz)⟩, HBq.out⟩
theorem fits_one2 {v : VT} {w : World} (hv : v.At w.heap.size w) : Calls Tryz.prog 13 #[.slice (some ⟨w.heap.size, 0, none⟩) 1 1] (w.alloc (.cells v.cells.toArray 24)) fun e w' => (∃ b, e = .returned (.bool b) ∧ (b = true → v.nest ≤ 12)) ∧ Below w.heap.size w w' := by
  have hl := list_new (w := w) (l := [v]) (c := 1) (by simp) (fun x hx => by rw [List.mem_singleton.1 hx]; exact hv)
  rw [vcs_one1] at hl
  have hb : Below w.heap.size w (w.alloc (.cells v.cells.toArray 24)) := (Below.refl _ _).alloc (Nat.le_refl _) _
  refine (fits2_any (some ⟨w.heap.size, 0, none⟩) 1 [v] _ _ hl (Nat.le_refl _)).mono ?_
  rintro e w' ⟨⟨b, h1, h3⟩, h2⟩
  exact ⟨⟨b, h1, fun hb => h3 hb v (by simp)⟩, hb.trans (h2.mono hb.size)⟩
end Go.Proofs.YthfjahagmfgfeaaGreatDoor.Wi
