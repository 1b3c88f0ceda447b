/- The queue and the document's row side by side. -/
import Derived.Test.YtjjmjbemflhlbaaNT
import Derived.Test.YtjjmjbemflhlbaaNU
import Derived.Test.YtjjmjbemflhlbaaNL
namespace Go.Proofs.Ytjjmjbemflhlbaa.Qu
open Go Go.RowKit Go.Proofs.Ytjjmjbemflhlbaa
open Go.Proofs.Ytjjmjbemflhlbaa.Hp (K3 kv KLit wf3 i64wf kv_inj)
open Go.Proofs.Ytjjmjbemflhlbaa.Dk (Frm below_drewN Frm.of_below Frm.setCell Frm.refl Frm.drewN Frm.drew Frm.transT Frm.turned Frm.trans Frm.mono Frm.setRow Frm.thenBelow Frm.below)
set_option linter.unusedVariables false
set_option linter.unusedSimpArgs false
set_option maxRecDepth 100000
/-- The queue at g holds W; the law's row v holds D. -/
structure PlS (w : World) (F : Nat → Prop) (g : Nat) (W : List Tk) (v : Value) (D : List Tk) (wr : World) : Prop where
  q : ∃ T : Nat → Prop, QT wr T g W ∧ (∀ q, T q → q < wr.heap.size ∧ w.heap.size ≤ q) ∧ (∀ q, v.ownBlock = some q → ¬ T q) ∧ ∀ q, F q → q < wr.heap.size ∧ ¬ T q
  row : HRow wr w.heap.size v D
  low : Below w.heap.size w wr
variable {w wr w' : World} {F : Nat → Prop} {g : Nat} {W V D D' : List Tk} {v v' : Value}
theorem PlS.call {T : Nat → Prop} (h : PlS w F g W v D wr) (hT : ∀ q, T q → q < wr.heap.size ∧ w.heap.size ≤ q) (hv : ∀ q, v.ownBlock = some q → ¬ T q) (hf : ∀ q, F q → q < wr.heap.size ∧ ¬ T q) (hp : QPost wr T g V w') : PlS w F g V v D w' ∧ ∀ q, F q → w'.heap[q]? = wr.heap[q]? := by
  obtain ⟨hF, T', hQ, hT'⟩ := hp
  have hlt := (show wr.ownsRow _ _ _ _ _ _ from h.row).lt
  refine ⟨⟨⟨T', hQ, fun q hq => ⟨(hT' q hq).2, ?_⟩, fun q hq hqT => ?_, fun q hq => ⟨Nat.lt_of_lt_of_le (hf q hq).1 hF.size, fun hqT => ?_⟩⟩, own_keepK h.row fun q hq hlt => hF.block q hlt (hv q hq), h.low.trans (hF.below (fun q _ hq => (hT q hq).2) h.low.size)⟩, fun q hq => hF.block q (hf q hq).1 (hf q hq).2⟩
  · rcases (hT' q hq).1 with e | e
    · exact (hT q e).2
    · exact Nat.le_trans h.low.size e
  · rcases (hT' q hqT).1 with e | e
    · exact hv q hq e
    · have := hlt q hq; omega
  · rcases (hT' q hqT).1 with e | e
    · exact (hf q hq).2 e
    · have := (hf q hq).1; omega
theorem PlS.below (h : PlS w F g W v D wr) (hb : Below wr.heap.size wr w') : PlS w F g W v D w' := by
  obtain ⟨T, hQ, hT, hv, hf⟩ := h.q
  exact ⟨⟨T, hQ.below hb, fun q hq => ⟨Nat.lt_of_lt_of_le (hT q hq).1 hb.size, (hT q hq).2⟩, hv, fun q hq => ⟨Nat.lt_of_lt_of_le (hf q hq).1 hb.size, (hf q hq).2⟩⟩, own_belowK h.row hb, h.low.trans (hb.mono h.low.size)⟩
/-- New blocks are the law's. -/
theorem PlS.more {F' : Nat → Prop} (h : PlS w F g W v D wr) (hb : Below wr.heap.size wr w') (hF : ∀ q, F' q → F q ∨ (wr.heap.size ≤ q ∧ q < w'.heap.size)) : PlS w F' g W v D w' := by
  obtain ⟨T, hQ, hT, hv, hf⟩ := h.q
  refine ⟨⟨T, hQ.below hb, fun q hq => ⟨Nat.lt_of_lt_of_le (hT q hq).1 hb.size, (hT q hq).2⟩, hv, fun q hq => ?_⟩, own_belowK h.row hb, h.low.trans (hb.mono h.low.size)⟩
  rcases hF q hq with e | ⟨e1, e2⟩
  · exact ⟨Nat.lt_of_lt_of_le (hf q e).1 hb.size, (hf q e).2⟩
  · exact ⟨e2, fun ht => by have := (hT q ht).1; omega⟩
theorem PlS.fewer {F' : Nat → Prop} (h : PlS w F g W v D wr) (hF : ∀ q, F' q → F q) : PlS w F' g W v D wr := by
  obtain ⟨T, hQ, hT, hv, hf⟩ := h.q
  exact ⟨⟨T, hQ, hT, hv, fun q hq => hf q (hF q hq)⟩, h.row, h.low⟩
/-- Another row in its place. -/
theorem PlS.other {n : Nat} (h : PlS w F g W v D wr) (hb : Below wr.heap.size wr w') (hn : n = D'.length) (hr : w'.ownsRow wr.heap.size 39 4 v' n (tcs D')) : PlS w F g W v' D' w' := by
  subst hn
  have h2 := h.below hb
  obtain ⟨T, hQ, hT, hv, hf⟩ := h.q
  refine ⟨⟨T, hQ.below hb, fun q hq => ⟨Nat.lt_of_lt_of_le (hT q hq).1 hb.size, (hT q hq).2⟩, fun q hq hqT => ?_, fun q hq => ⟨Nat.lt_of_lt_of_le (hf q hq).1 hb.size, (hf q hq).2⟩⟩, own_baseQ hr h.low.size, h2.low⟩
  have := (hr.lt q hq).1
  have := (hT q hqT).1
  omega
/-- One of the law's own rows in its place. -/
theorem PlS.takeRow (h : PlS w F g W v D wr) (hv' : ∀ q, v'.ownBlock = some q → F q) (hr : HRow wr w.heap.size v' D') : PlS w F g W v' D' wr := by
  obtain ⟨T, hQ, hT, hv, hf⟩ := h.q
  exact ⟨⟨T, hQ, hT, fun q hq => (hf q (hv' q hq)).2, hf⟩, hr, h.low⟩
theorem PlS.flt (h : PlS w F g W v D wr) {q : Nat} (hq : F q) : q < wr.heap.size := by
  obtain ⟨T, hQ, hT, hv, hf⟩ := h.q
  exact (hf q hq).1
theorem fd_ge {W : List Tk} {k : K3} (hnd : (keysT W).Nodup) : (fd W k = -1 ∧ (keysT W).contains k = false) ∨ ∃ a : Nat, fd W k = (a : Int) ∧ (keysT W).contains k = true := by
  by_cases hin : k ∈ keysT W
  · obtain ⟨x, hx, rfl⟩ := List.mem_map.1 hin
    obtain ⟨A, B, rfl⟩ := List.append_of_mem hx
    refine .inr ⟨A.length, ?_, by simpa using hin⟩
    have hA : x.1 ∉ keysT A := fun hm => by
      simp only [keysT, List.map_append, List.map_cons, List.nodup_append] at hnd
      exact hnd.2.2 x.1 hm x.1 (by simp) rfl
    have := fdG_at (A := A) (B := B) (x := x) 0 hA
    unfold fd
    rw [this]
    simp
  · exact .inl ⟨fdG_no 0 hin, by simpa using hin⟩
theorem take_snocT {L : List Tk} {i : Nat} {x : Tk} (h : L[i]? = some x) : L.take (i + 1) = L.take i ++ [x] := by rw [List.take_add_one, h]; rfl
theorem othT_snoc (run : Int) (W : List Tk) (x : Tk) : othW run (W ++ [x]) = if (x.1.1 == run) = true then othW run W else othW run W ++ [x] := by
  unfold othW
  rw [List.filter_append, List.filter_cons]
  cases hx : (x.1.1 == run) <;> simp
theorem cntT_oth (run : Int) : ∀ W : List Tk, cntW run W + (othW run W).length = W.length
  | [] => rfl
  | x :: W => by
    have h := cntT_oth run W
    unfold cntW othW at h ⊢
    by_cases hx : (x.1.1 == run) = true
    · simp [hx] at h ⊢; omega
    · simp [hx] at h ⊢; omega
theorem PlS.nodup (h : PlS w F g W v D wr) : (keysT W).Nodup := by
  obtain ⟨T, hQ, _⟩ := h.q
  exact hQ.nodup
theorem PlS.few (h : PlS w F g W v D wr) : W.length ≤ 128 := by
  obtain ⟨T, hQ, _⟩ := h.q
  exact hQ.few
theorem PlS.wf (h : PlS w F g W v D wr) : ∀ x ∈ W, wf3 x.1 ∧ i64wf x.2 := by
  obtain ⟨T, hQ, _⟩ := h.q
  exact hQ.wf
theorem pl_add (h : PlS w F g W v D wr) (k : K3) (hk : wf3 k) (now : Int) (hnow : i64wf now) : Calls Try.prog 14 #[.pointer (some ⟨g, 0, none⟩), .agg (kcs k).toArray, .int .i64 now] wr fun e w' => e = .returned (.int .i64 (addR W k)) ∧ PlS w F g (addW W k now) v D w' ∧ ∀ q, F q → w'.heap[q]? = wr.heap[q]? := by
  obtain ⟨T, hQ, hT, hv, hf⟩ := h.q
  exact (qt_add hQ k hk now hnow).mono fun e w' hh => ⟨hh.1, (h.call hT hv hf hh.2).1, (h.call hT hv hf hh.2).2⟩
theorem pl_remove (h : PlS w F g W v D wr) (k : K3) (hk : wf3 k) : Calls Try.prog 17 #[.pointer (some ⟨g, 0, none⟩), .agg (kcs k).toArray] wr fun e w' => e = .returned (.bool ((keysT W).contains k)) ∧ PlS w F g (remW W k) v D w' ∧ ∀ q, F q → w'.heap[q]? = wr.heap[q]? := by
  obtain ⟨T, hQ, hT, hv, hf⟩ := h.q
  exact (qt_remove hQ k hk).mono fun e w' hh => ⟨hh.1, (h.call hT hv hf hh.2).1, (h.call hT hv hf hh.2).2⟩
theorem pl_take_nil (h : PlS w F g [] v D wr) : Calls Try.prog 15 #[.pointer (some ⟨g, 0, none⟩)] wr fun e w' => e = .returned (.tuple #[.agg (kcs k0).toArray, .bool false]) ∧ PlS w F g [] v D w' ∧ ∀ q, F q → w'.heap[q]? = wr.heap[q]? := by
  obtain ⟨T, hQ, hT, hv, hf⟩ := h.q
  exact (qt_take_nil hQ).mono fun e w' hh => ⟨hh.1, (h.call hT hv hf hh.2).1, (h.call hT hv hf hh.2).2⟩
theorem pl_take {x : Tk} (h : PlS w F g (x :: W) v D wr) : Calls Try.prog 15 #[.pointer (some ⟨g, 0, none⟩)] wr fun e w' => e = .returned (.tuple #[.agg (kcs x.1).toArray, .bool true]) ∧ PlS w F g W v D w' ∧ ∀ q, F q → w'.heap[q]? = wr.heap[q]? := by
  obtain ⟨T, hQ, hT, hv, hf⟩ := h.q
  exact (qt_take hQ).mono fun e w' hh => ⟨hh.1, (h.call hT hv hf hh.2).1, (h.call hT hv hf hh.2).2⟩
theorem pl_drop (h : PlS w F g W v D wr) (run : Int) : Calls Try.prog 18 #[.pointer (some ⟨g, 0, none⟩), .int .i64 run] wr fun e w' => e = .returned (.int .i64 (cntW run W : Int)) ∧ PlS w F g (othW run W) v D w' ∧ ∀ q, F q → w'.heap[q]? = wr.heap[q]? := by
  obtain ⟨T, hQ, hT, hv, hf⟩ := h.q
  exact (qt_drop hQ run).mono fun e w' hh => ⟨hh.1, (h.call hT hv hf hh.2).1, (h.call hT hv hf hh.2).2⟩
theorem pl_len (h : PlS w F g W v D wr) : Calls Try.prog 20 #[.pointer (some ⟨g, 0, none⟩)] wr fun e w' => e = .returned (.int .i64 (W.length : Int)) ∧ w' = wr := by
  obtain ⟨T, hQ, hT, hv, hf⟩ := h.q
  exact qt_len hQ
theorem pl_has (h : PlS w F g W v D wr) (k : K3) (hk : wf3 k) : Calls Try.prog 22 #[.pointer (some ⟨g, 0, none⟩), .agg (kcs k).toArray] wr fun e w' => e = .returned (.bool ((keysT W).contains k)) ∧ PlS w F g W v D w' ∧ Below wr.heap.size wr w' := by
  obtain ⟨T, hQ, hT, hv, hf⟩ := h.q
  exact (qt_has hQ k hk).mono fun e w' hh => ⟨hh.1, h.below hh.2, hh.2⟩
theorem tk_eq {W : List Tk} (hnd : (keysT W).Nodup) {k : K3} {s t : Int} (hs : (k, s) ∈ W) (ht : (k, t) ∈ W) : s = t := by
  unfold keysT at hnd
  obtain ⟨i, hi, e1⟩ := List.getElem_of_mem hs
  obtain ⟨j, hj, e2⟩ := List.getElem_of_mem ht
  have hij : i = j := by
    have h1 := (List.getElem_inj (i := i) (j := j) (h₀ := by simpa using hi) (h₁ := by simpa using hj) hnd).1
    apply h1
    simp [e1, e2]
  subst hij
  rw [e1] at e2
  exact congrArg Prod.snd e2
theorem pl_since (h : PlS w F g W v D wr) {x : Tk} (hx : x ∈ W) : Calls Try.prog 21 #[.pointer (some ⟨g, 0, none⟩), .agg (kcs x.1).toArray] wr fun e w' => e = .returned (.tuple #[.int .i64 x.2, .bool true]) ∧ PlS w F g W v D w' ∧ Below wr.heap.size wr w' := by
  obtain ⟨T, hQ, hT, hv, hf⟩ := h.q
  refine (qt_since hQ x.1 (hQ.wf x hx).1).mono ?_
  rintro e w' ⟨⟨hn, _⟩ | ⟨s, hs, he⟩, hb⟩
  · exact absurd (List.mem_map.2 ⟨x, hx, rfl⟩) hn
  · rw [tk_eq hQ.nodup (s := x.2) (t := s) hx hs]
    exact ⟨he, h.below hb, hb⟩
theorem pl_list (h : PlS w F g W v D wr) : Calls Try.prog 19 #[.pointer (some ⟨g, 0, none⟩)] wr fun e w' =>
    ∃ ao c, e = .returned (.slice ao W.length c) ∧ w'.ownsRow wr.heap.size 32 3 (.slice ao W.length c) W.length (kss (keysT W)) ∧ PlS w F g W v D w' ∧ Below wr.heap.size wr w' := by
  obtain ⟨T, hQ, hT, hv, hf⟩ := h.q
  exact (qt_list hQ).mono fun e w' ⟨ao, c, h1, h2, h3⟩ => ⟨ao, c, h1, h2, h.below h3, h3⟩
theorem pl_first {x : Tk} (h : PlS w F g (x :: W) v D wr) : Calls Try.prog 23 #[.pointer (some ⟨g, 0, none⟩)] wr fun e w' => e = .returned (.tuple #[.agg (kcs x.1).toArray, .int .i64 x.2, .bool true]) ∧ PlS w F g (x :: W) v D w' ∧ Below wr.heap.size wr w' := by
  obtain ⟨T, hQ, hT, hv, hf⟩ := h.q
  exact (qt_first hQ).mono fun e w' hh => ⟨hh.1, h.below hh.2, hh.2⟩
theorem pl_first_nil (h : PlS w F g [] v D wr) : Calls Try.prog 23 #[.pointer (some ⟨g, 0, none⟩)] wr fun e w' => e = .returned (.tuple #[.agg (kcs k0).toArray, .int .i64 0, .bool false]) ∧ PlS w F g [] v D w' ∧ Below wr.heap.size wr w' := by
  obtain ⟨T, hQ, hT, hv, hf⟩ := h.q
  exact (qt_first_nil hQ).mono fun e w' hh => ⟨hh.1, h.below hh.2, hh.2⟩
/-- Where a task stands. -/
theorem fd_no {k : K3} (h : k ∉ keysT W) : fd W k = -1 := fdG_no 0 h
theorem fd_mid {A B : List Tk} {x : Tk} (h : (keysT (A ++ x :: B)).Nodup) : fd (A ++ x :: B) x.1 = (A.length : Int) := by
  have hA : x.1 ∉ keysT A := fun hm => by
    simp only [keysT, List.map_append, List.map_cons, List.nodup_append] at h
    exact h.2.2 x.1 hm x.1 (by simp) rfl
  have := fdG_at (A := A) (B := B) (x := x) 0 hA
  unfold fd
  rw [this]
  simp
theorem key_split {k : K3} (h : k ∈ keysT W) : ∃ A x B, W = A ++ x :: B ∧ x.1 = k := by
  obtain ⟨x, hx, e⟩ := List.mem_map.1 h
  obtain ⟨A, B, rfl⟩ := List.append_of_mem hx
  exact ⟨A, x, B, rfl, e⟩
end Go.Proofs.Ytjjmjbemflhlbaa.Qu
