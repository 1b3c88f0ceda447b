/- fits, small: the sizes with which commands are tried. -/
import Derived.Test.YtnfobnnbeefeeaaGreatDoorGR
import Derived.Test.YtnfobnnbeefeeaaGreatDoorGP
namespace Go.Proofs.YtnfobnnbeefeeaaGreatDoor.Wi
open Go Go.RowKit
set_option linter.unusedVariables false
set_option linter.unusedSimpArgs false
def SmAnyC (x : VT) : Prop := ∀ (N q d : Nat) (n : Int) (w : World), d ≤ 13 → 0 ≤ n → n ≤ 400 → x.At N w → N ≤ w.heap.size → N ≤ q → LeftAt w q n → Calls Tryz.prog 63 #[.agg x.cells.toArray, .int .i64 (d : Int), .pointer (some ⟨q, 0, none⟩)] w (SmPost w q)
def smRelC (w : World) (q : Nat) (len : Nat) (i : Value) (wr : World) : Prop := ∃ (j : Nat) (n : Int), i = .int .i64 (j : Int) ∧ j ≤ len ∧ 0 ≤ n ∧ n ≤ 400 ∧ LeftAt wr q n ∧ Fr w wr q none
set_option maxHeartbeats 8000000 in
set_option maxRecDepth 100000 in
theorem fitsW_any : ∀ v : VT, SmAnyC v := by
  intro v
  induction v using VT.ind with
  | h k n s ao c l ih =>
    intro N q d m w hd hm0 hm1 hv hN hq hL
    obtain ⟨hk, hn, hs, hll⟩ := hv.fit
    have hql := lt_of_rowK hL
    obtain ⟨w1, hw1⟩ : ∃ w1, w1 = w.alloc (.cells (VT.mk k n s ao c l).cells.toArray 26) := ⟨_, rfl⟩
    obtain ⟨g, hg⟩ : ∃ g, g = w.heap.size := ⟨_, rfl⟩
    have hb1 : Below w.heap.size w w1 := by rw [hw1]; exact (Below.refl _ _).alloc (Nat.le_refl _) _
    have nk : w1.heap[g]? = some (.cells (VT.mk k n s ao c l).cells.toArray 26 (0, 0)) := by rw [hw1, hg]; exact heap_alloc_new _ _
    have hL1 : LeftAt w1 q m := (hb1.block q hql).trans hL
    have c1 : w1.cell? ⟨q, 0, none⟩ = some (.int .i64 m) := by rw [cell_of_rowW w1 q 0 _ _ _ hL1]; rfl
    have f1 : w1.frozen? ⟨q, 0, none⟩ = false := frozen_of_row w1 q 0 _ _ hL1
    obtain ⟨w2, hw2⟩ : ∃ w2, w2 = w1.setCell ⟨q, 0, none⟩ (.int .i64 (m - 1)) := ⟨_, rfl⟩
    have hL2 : LeftAt w2 q (m - 1) := by rw [hw2]; exact Go.Joins.block_setCell (i := 0) hL1 _
    have hqg : q ≠ g := by omega
    have nk2 : w2.heap[g]? = some (.cells (VT.mk k n s ao c l).cells.toArray 26 (0, 0)) := by rw [hw2]; exact (Below.heap_setCell w1 ⟨q, 0, none⟩ _ g (Ne.symm hqg)).trans nk
    have hf2 : Fr w w2 q none := by rw [hw2, hw1]; exact ((Fr.refl w q none).alloc _).set 0 _
    have c2 : w2.cell? ⟨q, 0, none⟩ = some (.int .i64 (m - 1)) := by rw [cell_of_rowW w2 q 0 _ _ _ hL2]; rfl
    have d2 : w2.cell? ⟨g, 2, none⟩ = some (.string (str s)) := by rw [cell_of_rowW w2 g 2 _ _ _ nk2]; rfl
    have d3 : w2.cell? ⟨g, 3, none⟩ = some (.slice ao l.length c) := by rw [cell_of_rowW w2 g 3 _ _ _ nk2]; rfl
    have hsz := str_sizeX s
    have hw1b := show w1 = w.alloc (.cells #[.int .i64 k, .int .i64 n, .string (str s), .slice ao l.length c] 26) from hw1
    show Calls Tryz.prog 63 #[.agg #[.int .i64 k, .int .i64 n, .string (str s), .slice ao l.length c], .int .i64 (d : Int), .pointer (some ⟨q, 0, none⟩)] w _
    obtain ⟨S, hS⟩ : ∃ S, S = str s := ⟨_, rfl⟩
    rw [← hS] at d2 hsz hw1b ⊢
    have HW1 := Lib.hid hw1b
    have HG := Lib.hid hg
    have HW2 := Lib.hid hw2
    have HF2 := Lib.hid hf2
    have HL2 := Lib.hid hL2
    have HV := Lib.hid hv
    have IH := Lib.hid ih
    have BAD := Lib.hid (show SmPost w q (.returned (.bool false)) w2 from ⟨false, m - 1, rfl, by omega, by omega, (fun h => by cases h), hL2, hf2⟩)
    clear hw1 hw1b hg hw2 hb1 nk hL1 hL2 nk2 hf2 hv ih hS hL hqg
    go_enter Tryz.func63, Tryz.ntmps63
    go_upto_region 1 with fail
    rw [← HW1.out, ← HG.out]
    go_upto_region 2 with fail
    rw [← HW2.out]
    clear c1 f1
    by_cases h1 : m - 1 < 0
    · go_wp2_with fail
      go_ret
      exact BAD.out
    by_cases h2 : 12 < d
    · have h2' : (12 : Int) < (d : Int) := by omega
      go_wp2_with fail
      go_ret
      exact BAD.out
    have h2' : ¬ (12 : Int) < (d : Int) := by omega
    by_cases h3 : 1100 < s.length
    · have h3' : (1100 : Int) < (S.size : Int) := by omega
      go_wp2_with fail
      go_ret
      exact BAD.out
    have h3' : ¬ (1100 : Int) < (S.size : Int) := by omega
    have R0 := Lib.hid (show smRelC w q l.length (.int .i64 0) w2 from ⟨0, m - 1, rfl, Nat.zero_le _, by omega, by omega, HL2.out, HF2.out⟩)
    have ed : (d : Int) + 1 = ((d + 1 : Nat) : Int) := rfl
    obtain ⟨d1, hd1⟩ : ∃ d1, d1 = d + 1 := ⟨_, rfl⟩
    rw [← hd1] at ed
    have hd13 : d1 ≤ 13 := by omega
    have ED := Lib.hid ed
    clear ed hd1
    go_wp2_with fail
    go_loopw [31] (fun i wr => smRelC w q l.length i wr) (fun i _ => l.length - (intOf i).toNat)
    case atStart => exact R0.out
    case round =>
      obtain ⟨wq, rfl⟩ : ∃ wq : World, wq = wr := ⟨_, rfl⟩
      obtain ⟨j, mm, rfl, hj, hmm0, hmm1, hLq, hFq⟩ := hrel
      have q0 : (0 : Int) ≤ (j : Int) := by omega
      have HLq := Lib.hid hLq
      have HFq := Lib.hid hFq
      clear hLq hFq R0 BAD c2 d2 d3
      by_cases hjl : j < l.length
      · have q1 : (j : Int) < (l.length : Int) := by omega
        obtain ⟨x, hx⟩ : ∃ x, l[j]? = some x := ⟨_, List.getElem?_eq_getElem hjl⟩
        obtain ⟨hxv, ad, rfl, had, hxc⟩ := HV.out.elem hx
        have nb := HFq.out.nb hq hN
        have hNq := Nat.le_trans hN HFq.out.size
        have KX := Lib.hid (hxc wq nb)
        have HXM := List.mem_of_getElem? hx
        obtain ⟨w5, hw5⟩ : ∃ bx, bx = wq.alloc (.cells x.cells.toArray 26) := ⟨_, rfl⟩
        obtain ⟨g5, hg5⟩ : ∃ bx, bx = wq.heap.size := ⟨_, rfl⟩
        have bw5 : Below wq.heap.size wq w5 := by rw [hw5]; exact (Below.refl _ _).alloc (Nat.le_refl _) _
        have nw5 : w5.heap[g5]? = some (.cells x.cells.toArray 26 (0, 0)) := by rw [hw5, hg5]; exact heap_alloc_new _ _
        have Kw5 := Lib.hid (rowK nw5)
        have Hw5 := Lib.hid hw5
        have Hg5 := Lib.hid hg5
        have Bw5 := Lib.hid bw5
        have Nw5 := Lib.hid nw5
        clear hw5 hg5 bw5 nw5
        have hL5 : LeftAt w5 q mm := (Bw5.out.block q (lt_of_rowK HLq.out)).trans HLq.out
        have CX := Lib.hid (IH.out x HXM N q d1 mm w5 hd13 hmm0 hmm1 (hxv.keep fun k hk => (Bw5.out.block k (by omega)).trans (nb k hk)) (Nat.le_trans hNq Bw5.out.size) hq hL5)
        have HF5 := Lib.hid (show Fr w w5 q none by rw [Hw5.out]; exact HFq.out.alloc _)
        clear hxv hxc had hx nb hNq hL5 HXM
        go_wp2_with (first
          | (with_reducible show wpList _ _ _ _ _ _; refine wpList_load_allW rfl 26 (.tmp 33) rfl _ rfl x.cells _ KX.out Tryz.underlying26 rfl (Tryz.valSize x) ?_)
          | (with_reducible show wpList _ _ _ _ _ _; refine wpList_store_newW rfl 26 (.tmp 8) (.tmp 34) rfl 26 _ x.cells.toArray rfl rfl (Tryz.valSize' x) (by with_unfolding_all exact VT.four x) x.cells_one ?_; rw [← Hw5.out, ← Hg5.out])
          | (with_reducible show wpList _ _ _ _ _ _; refine wpList_load_allW rfl 26 (.tmp 8) rfl ⟨g5,0,none⟩ rfl x.cells _ Kw5.out Tryz.underlying26 rfl (Tryz.valSize x) ?_))
        rw [ED.out]
        refine CX.out.mono ?_
        rintro e w6 ⟨b, m6, rfl, h60, h61, h62, hL6, hF6⟩
        have hFw := HF5.out.trans (Or.inl rfl) hF6
        cases b
        · have RL := Lib.hid (show SmPost w q (.returned (.bool false)) w6 from ⟨false, m6, rfl, h60, h61, (fun h => by cases h), hL6, hFw⟩)
          clear hL6 hF6 hFw
          go_wp2_with fail
          go_ret
          exact RL.out
        · have RL := Lib.hid (show smRelC w q l.length (.int .i64 ((j + 1 : Nat) : Int)) w6 from ⟨j + 1, m6, rfl, hjl, h62 rfl, h61, hL6, hFw⟩)
          clear hL6 hF6 hFw
          go_wp2_with fail
          exact ⟨RL.out, by simp [intOf]; omega⟩
      · have q1 : ¬ (j : Int) < (l.length : Int) := by omega
        have RL := Lib.hid (show SmPost w q (.returned (.bool true)) wq from ⟨true, mm, rfl, by omega, hmm1, (fun _ => hmm0), HLq.out, HFq.out⟩)
        go_wp2_with fail
        go_ret
        exact RL.out
def csRel (w2 : World) (q : Nat) (len : Nat) (i : Value) (wr : World) : Prop := ∃ (j : Nat) (n : Int), i = .int .i64 (j : Int) ∧ j ≤ len ∧ 0 ≤ n ∧ n ≤ 400 ∧ LeftAt wr q n ∧ Fr w2 wr q none
set_option maxHeartbeats 8000000 in
set_option maxRecDepth 100000 in
theorem csmall_any (ao : Option Addr) (c : Nat) (l : List Cm) (N : Nat) (w : World) (hv : CL N w ao l) (hN : N ≤ w.heap.size) :
    Calls Tryz.prog 19 #[.slice ao l.length c] w fun e w' => AnB e ∧ Below w.heap.size w w' := by
  obtain ⟨w2, hw2⟩ : ∃ w2, w2 = w.alloc (.cells #[.int .i64 400] 3) := ⟨_, rfl⟩
  obtain ⟨q, hq⟩ : ∃ q, q = w.heap.size := ⟨_, rfl⟩
  have hb2 : Below w.heap.size w w2 := by rw [hw2]; exact (Below.refl _ _).alloc (Nat.le_refl _) _
  have hL2 : LeftAt w2 q 400 := by rw [hw2, hq]; exact heap_alloc_new _ _
  have hll := hv.len
  have HV := Lib.hid (hv.below (hb2.mono hN))
  have R0 := Lib.hid (show csRel w2 q l.length (.int .i64 0) w2 from ⟨0, 400, rfl, Nat.zero_le _, by omega, by omega, hL2, Fr.refl _ _ _⟩)
  have HN2 := Lib.hid (Nat.le_trans hN hb2.size)
  have HQ := Lib.hid (show N ≤ q ∧ w.heap.size ≤ q by omega)
  have HW2 := Lib.hid hw2
  have HQE := Lib.hid hq
  have HB2 := Lib.hid hb2
  have FIN := Lib.hid (show ∀ W, Fr w2 W q none → Below w.heap.size w W from fun W f => fr_new hb2 hb2.size f (by omega) (fun g hg => by cases hg))
  clear hw2 hq hb2 hL2 hv
  go_enter Tryz.func19, Tryz.ntmps19
  go_upto_region 2 with fail
  rw [← HW2.out, ← HQE.out]
  go_wp2_with fail
  go_loopw [8] (fun i wr => csRel w2 q l.length i wr) (fun i _ => l.length - (intOf i).toNat)
  case atStart => exact R0.out
  case round =>
    obtain ⟨wq, rfl⟩ : ∃ wq : World, wq = wr := ⟨_, rfl⟩
    obtain ⟨j, mm, rfl, hj, hmm0, hmm1, hLq, hFq⟩ := hrel
    have q0 : (0 : Int) ≤ (j : Int) := by omega
    have HLq := Lib.hid hLq
    have HFq := Lib.hid hFq
    clear hLq hFq R0
    by_cases hjl : j < l.length
    · have q1 : (j : Int) < (l.length : Int) := by omega
      obtain ⟨x, hx⟩ : ∃ x, l[j]? = some x := ⟨_, List.getElem?_eq_getElem hjl⟩
      obtain ⟨hxv, ad, rfl, had, hxc⟩ := HV.out.elem hx
      have nb := HFq.out.nb HQ.out.1 HN2.out
      have hNq := Nat.le_trans HN2.out HFq.out.size
      have KX := Lib.hid (hxc wq nb)
      obtain ⟨w5, hw5⟩ : ∃ bx, bx = wq.alloc (.cells x.cells.toArray 42) := ⟨_, rfl⟩
      obtain ⟨g5, hg5⟩ : ∃ bx, bx = wq.heap.size := ⟨_, rfl⟩
      have bw5 : Below wq.heap.size wq w5 := by rw [hw5]; exact (Below.refl _ _).alloc (Nat.le_refl _) _
      have nw5 : w5.heap[g5]? = some (.cells x.cells.toArray 42 (0, 0)) := by rw [hw5, hg5]; exact heap_alloc_new _ _
      have Kw5 := Lib.hid (rowC nw5)
      have Cw5 := Lib.hid (cmC nw5)
      have Hw5 := Lib.hid hw5
      have Hg5 := Lib.hid hg5
      have Bw5 := Lib.hid bw5
      have Nw5 := Lib.hid nw5
      clear hw5 hg5 bw5 nw5
      have hL5 : LeftAt w5 q mm := (Bw5.out.block q (lt_of_rowK HLq.out)).trans HLq.out
      have CX := Lib.hid (fitsW_any x.val N q 0 mm w5 (by omega) hmm0 hmm1 (hxv.val.keep fun k hk => (Bw5.out.block k (by omega)).trans (nb k hk)) (Nat.le_trans hNq Bw5.out.size) HQ.out.1 hL5)
      rw [show ((0 : Nat) : Int) = 0 from rfl] at CX
      have HF5 := Lib.hid (show Fr w2 w5 q none by rw [Hw5.out]; exact HFq.out.alloc _)
      have z5 := str_sizeX x.name
      have c5 := Cw5.out.c4
      obtain ⟨S, hS⟩ : ∃ S, S = str x.name := ⟨_, rfl⟩
      rw [← hS] at z5 c5
      obtain ⟨L5, hl5⟩ : ∃ n, n = x.name.length := ⟨_, rfl⟩
      rw [← hl5] at z5
      have KV := Lib.hid Cw5.out.cv
      have BAD := Lib.hid (FIN.out w5 HF5.out)
      clear hxv hxc had hx nb hNq hL5 hS hl5
      have Z5 := Lib.hid z5
      clear z5
      go_upto_region 5 with (first
        | (with_reducible show wpList _ _ _ _ _ _; refine wpList_load_allW rfl 42 (.tmp 10) rfl _ rfl x.cells _ KX.out Tryz.underlying42 rfl (Tryz.cmSize x) ?_)
        | (with_reducible show wpList _ _ _ _ _ _; refine wpList_store_newW rfl 42 (.tmp 5) (.tmp 11) rfl 42 _ x.cells.toArray rfl rfl (Tryz.cmSize' x) (by with_unfolding_all exact Cm.nine x) x.cells_one ?_; rw [← Hw5.out, ← Hg5.out]))
      have z5 := Z5.out
      by_cases h1 : 200 < L5
      · have h1' : (200 : Int) < (S.size : Int) := by omega
        go_wp2_with fail
        go_ret
        exact ⟨⟨false, rfl⟩, BAD.out⟩
      have d1 : decide ((200 : Int) < (S.size : Int)) = false := decide_eq_false (by omega)
      clear z5
      go_wp2_with (with_reducible show wpList _ _ _ _ _ _; refine wpList_loadWanted (by with_unfolding_all rfl) 26 (.tmp 17) rfl ⟨g5,5,none⟩ (by with_unfolding_all rfl) x.val.cells _ KV.out Tryz.underlying26 rfl (Tryz.valSize x.val) ?_)
      refine CX.out.mono ?_
      rintro e w6 ⟨b, m6, rfl, h60, h61, h62, hL6, hF6⟩
      have hFw := HF5.out.trans (Or.inl rfl) hF6
      cases b
      · have RL := Lib.hid (FIN.out w6 hFw)
        clear hL6 hF6 hFw
        go_wp2_with fail
        go_ret
        exact ⟨⟨false, rfl⟩, RL.out⟩
      · have RL := Lib.hid (show csRel w2 q l.length (.int .i64 ((j + 1 : Nat) : Int)) w6 from ⟨j + 1, m6, rfl, hjl, h62 rfl, h61, hL6, hFw⟩)
        clear hL6 hF6 hFw
        go_wp2_with fail
        exact ⟨RL.out, by simp [intOf]; omega⟩
    · have q1 : ¬ (j : Int) < (l.length : Int) := by omega
      have RL := Lib.hid (FIN.out wq HFq.out)
      go_wp2_with fail
      go_ret
      exact ⟨⟨true, rfl⟩, RL.out⟩
/-- One event: what small says of it. -/
theorem csmall_one {x : Cm} {w : World} (hx : x.At w.heap.size w) : Calls Tryz.prog 19 #[.slice (some ⟨w.heap.size, 0, none⟩) 1 1] (w.alloc (.cells x.cells.toArray 42)) fun e w' => AnB e ∧ Below w.heap.size w w' := by
  have hb : Below w.heap.size w (w.alloc (.cells x.cells.toArray 42)) := (Below.refl _ _).alloc (Nat.le_refl _) _
  refine (csmall_any (some ⟨w.heap.size, 0, none⟩) 1 [x] _ _ (CL.one hx) (Nat.le_refl _)).mono ?_
  rintro e w' ⟨h1, h2⟩
  exact ⟨h1, hb.trans (h2.mono hb.size)⟩
theorem csmall_made {w : World} {l : List Cm} {n : Nat} (hn : n = l.length) (h : ∀ x ∈ l, x.At w.heap.size w) (hl : l.length ≤ 140737488355328) : Calls Tryz.prog 19 #[.slice (some ⟨w.heap.size, 0, none⟩) n n] (w.alloc (.cells (ccs l).toArray 42)) fun e w' => AnB e ∧ Below w.heap.size w w' := by
  subst hn
  have hb : Below w.heap.size w (w.alloc (.cells (ccs l).toArray 42)) := (Below.refl _ _).alloc (Nat.le_refl _) _
  refine (csmall_any (some ⟨w.heap.size, 0, none⟩) l.length l _ _ (CL.made h hl) (Nat.le_refl _)).mono ?_
  rintro e w' ⟨h1, h2⟩
  exact ⟨h1, hb.trans (h2.mono hb.size)⟩
end Go.Proofs.YtnfobnnbeefeeaaGreatDoor.Wi
