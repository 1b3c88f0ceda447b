/- What a disk's calls Up, settle and Crash leave. -/
import Derived.Test.YthcliaaoadfegaaDw
import Derived.Test.YthcliaaoadfegaaQt
import Derived.Laws.CopyOwn
namespace Go.Proofs.Ythcliaaoadfegaa.Dk
open Go Go.RowKit
set_option linter.unusedVariables false
set_option linter.unusedSimpArgs false

variable {w : World} {d g m n : Nat} {x : DS}
theorem up_any (h : DiskAt Try.prog w d g m n x) : Calls Try.prog 20 #[.pointer (some ⟨d, 0, none⟩)] w fun e w' => e = .returned (.tuple #[]) ∧ DiskAt Try.prog w' d g m n x.up ∧ Frm (own3 d g m) w w' := by
  have c5 := h.c5
  unfold DS.up
  by_cases hd : x.down = true
  · rw [if_pos hd]
    rw [hd] at c5
    have c3 := h.c3
    have MP := h.map
    have H := Lib.hid h
    clear h
    go_enter Try.func20, Try.ntmps20
    go_wp2_with (refine wpList_clear _ rfl _ 51 rfl Try.underlying51 rfl MP ?_)
    intro w1 HM ht
    have hD1 := (H.out.setMap ht HM).mono (Nat.zero_le n)
    have c5' := hD1.c5
    have f5' := hD1.free 5
    dsimp only at c5'
    have HD := Lib.hid (hD1.setDown false)
    have HF := Lib.hid (((Frm.refl (own3 d g m) w).turned ht (.inl (.inr (.inr rfl)))).setCell (p := ⟨d, 5, none⟩) (.inl (.inl rfl)) (.bool false))
    clear MP H hD1 HM ht c3 c5
    go_wp2_with fail
    go_end0
    exact ⟨rfl, HD.out, HF.out⟩
  · rw [if_neg hd]
    have hd' : x.down = false := by simpa using hd
    rw [hd'] at c5
    have H := Lib.hid h
    clear h
    go_enter Try.func20, Try.ntmps20
    go_wp2_with fail
    go_end0
    exact ⟨rfl, H.out, Frm.refl _ _⟩
set_option maxRecDepth 100000 in
set_option maxHeartbeats 2000000 in
theorem settle_any (h : DiskAt Try.prog w d g m n x) (hin : ∀ i l, wfi i → x.S i = some l → x.has i = true) (i at_ : Int) (hw : wfi i) (hwa : wfi at_) :
    Calls Try.prog 39 #[.pointer (some ⟨d, 0, none⟩), .int .i64 i, .int .i64 at_] w fun e w' => e = .returned (.tuple #[]) ∧ DiskAt Try.prog w' d g m n (x.settle i at_) ∧ Frm (own3 d g m) w w' := by
  have c3 := h.c3
  have MP := h.map
  unfold DS.settle
  cases hS : x.S i with
  | none =>
    have H := Lib.hid h
    clear h hin
    go_enter Try.func39, Try.ntmps39
    go_wp2_with (first | (at_lookup; refine wpList_look_none w rfl _ _ 51 rfl Try.underlying3 Try.underlying51 (Try.zeroSec w) rfl MP rfl hw hS ?_) | (refine wpList_store_new rfl 75 (.tmp 6) (.tmp 15) rfl 75 Try.zeroCells75 (bvs zeros).toArray rfl rfl (Try.secSize zeros_length) (Try.zeroSize zeros_length) (all_bvs zeros) ?_))
    go_end0
    exact ⟨rfl, H.out.alloc _, (Frm.refl _ _).alloc _⟩
  | some l =>
    dsimp only
    have hl := MP.len Try.underlying3 Try.underlying51 (Try.zeroSec w) hw hS
    have hz := hin i l hw hS
    simp [DS.has] at hz
    obtain ⟨k, rfl⟩ : ∃ k : Nat, i = (k : Int) := ⟨i.toNat, by omega⟩
    have hk : k < x.s.length := by omega
    have hki : (k : Int) < (x.s.length : Int) := by omega
    obtain ⟨q, hq, hq128, hqq⟩ : ∃ q : Nat, (q : Int) = (if 128 < (if at_ < 0 then 0 else at_) then 128 else if at_ < 0 then 0 else at_) ∧ q ≤ 128 ∧ (min (max at_ 0) 128).toNat = q := by
      refine ⟨(min (max at_ 0) 128).toNat, ?_, by omega, rfl⟩
      split <;> split <;> omega
    have hqi : (q : Int) ≤ 128 := by omega
    have HQ := Lib.hid hq
    rw [hqq]
    have ek : ((k : Int)).toNat = k := by omega
    rw [ek]
    clear hq hqq hwa ek
    generalize hY : x.s.set k (l.take q ++ (x.s.getD k []).drop q) = Y
    have HY := Lib.hid hY
    clear hY
    obtain ⟨w1, hw1⟩ : ∃ w1, w1 = w.alloc (.cells (bvs l).toArray 75) := ⟨_, rfl⟩
    have hD1 := h.alloc (.cells (bvs l).toArray 75)
    have hb1 := heap_alloc_new w (.cells (bvs l).toArray 75)
    have hF1 := (Frm.refl (own3 d g m) w).alloc (.cells (bvs l).toArray 75)
    rw [← hw1] at hD1 hb1 hF1
    have c2 := hD1.c2
    have HW := Lib.hid hw1
    have H1 := Lib.hid hD1
    have F1 := Lib.hid hF1
    have B1 := Lib.hid hb1
    clear h hin hw1 hD1 hb1 hF1
    go_enter Try.func39, Try.ntmps39
    go_wp2_with (first | (at_lookup; refine wpList_look_some w rfl _ _ 51 rfl Try.underlying3 Try.underlying51 (Try.zeroSec w) rfl MP rfl hw hS ?_) | (refine wpList_store_new rfl 75 (.tmp 6) (.tmp 15) rfl 75 Try.zeroCells75 (bvs l).toArray rfl rfl (Try.secSize hl) (Try.zeroSize hl) (all_bvs l) ?_; rw [← HW.out]))
    refine wp_region_quiet_tail 11 (by kernel_rfl) (by kernel_rfl) ?_
    simp only [List.take_succ_cons, List.take_zero, List.drop_succ_cons, List.drop_zero]
    (repeat (go_big_quiet_step (fail)))
    rw [← HQ.out]
    (repeat (go_big_quiet_step (fail)))
    refine wpQuiet_nil ?_
    intro _ hw'
    obtain ⟨nq, hw''⟩ := hw'
    subst hw''
    have hat : (l.take q).length = q := by simp; omega
    have hcs : (bvs (l.take q)).length = q := by rw [bvs_length, hat]
    have hD2 := (H1.out.drewN nq).setOver (i := k) (a := l.take q) hk (by omega)
    rw [hat, HY.out] at hD2
    have hF2 := (F1.out.drewN nq).setRow (.inl (.inr (.inl rfl))) (over (flat x.s ++ x.tail) (k * 128) (bvs (l.take q))).toArray
    refine wpList_copy_own rfl (.tmp 24) (.tmp 28) 34 34 rfl 5 Try.underlying34 (by kernel_rfl) g (k * 128) 128 128 ⟨w.heap.size, 0, none⟩ q 128 rfl rfl (flat x.s ++ x.tail).toArray 75 H1.out.row (bvs (l.take q)) (by rw [hcs]; simp [Nat.min_eq_left hq128]) ?_ (by rw [hcs, List.size_toArray, List.length_append, flat_length H1.out.len]; omega) (bvs_one _) ?_
    · intro j v hv
      rw [Addr.add_mid]
      show w1.cell? _ = _
      rw [cell_of_row w1 w.heap.size (0 + j) _ _ _ B1.out, Nat.zero_add]
      simp only [bvs, List.map_take, List.getElem?_take] at hv
      split at hv
      · simpa [bvs] using hv
      · cases hv
    · show wpList _ _ _ _ _ ((w1.drewN nq).setRow g (over (flat x.s ++ x.tail) (k * 128) (bvs (l.take q))).toArray)
      generalize ((w1.drewN nq).setRow g _) = w9 at *
      have HD2 := Lib.hid hD2
      have HF2 := Lib.hid hF2
      clear hD2 hF2 H1 F1 B1 HW MP c2 c3
      simp only [Act.put, List.setIfInBounds_toArray, List.set_cons_zero, List.set_cons_succ, List.getElem_toArray, List.getElem_cons_zero, List.getElem_cons_succ]
      go_wp2_with fail
      all_goals (go_end0; exact ⟨rfl, HD2.out, HF2.out⟩)
/-- Numbers in a slice. -/
def Ks (w : World) (v : Value) (L : List Int) : Prop := ∃ ao c, v = .slice ao L.length c ∧ (∀ j, j < L.length → ∃ a, ao = some a ∧ w.cell? (a.add j) = some (.int .i64 (L.getD j 0))) ∧ (∀ z ∈ L, wfi z)
theorem settle_same (x : DS) (i a : Int) : (x.settle i a).S = x.S ∧ (x.settle i a).s.length = x.s.length := by
  unfold DS.settle
  split <;> simp
theorem settles_same (K : List Int) : ∀ x : DS, (K.foldl (fun y i => y.settle i 128) x).S = x.S ∧ (K.foldl (fun y i => y.settle i 128) x).s.length = x.s.length := by
  induction K with
  | nil => exact fun x => ⟨rfl, rfl⟩
  | cons k K ih =>
    intro x
    have h1 := ih (x.settle k 128)
    have h2 := settle_same x k 128
    exact ⟨h1.1.trans h2.1, h1.2.trans h2.2⟩
theorem has_same {x y : DS} (h : y.s.length = x.s.length) (i : Int) : y.has i = x.has i := by unfold DS.has; rw [h]
/-- What the loop of Crash keeps. -/
def CrRel (w : World) (d g m n : Nat) (x : DS) (L : List Int) (u : Value) (wr : World) : Prop :=
  ∃ j : Nat, u = .int .i64 (j : Int) ∧ j ≤ L.length ∧ DiskAt Try.prog wr d g m n ((L.take j).foldl (fun y i => y.settle i 128) x) ∧ Frm (own3 d g m) w wr
set_option maxRecDepth 100000 in
set_option maxHeartbeats 2000000 in
theorem crash_any (h : DiskAt Try.prog w d g m n x) (hin : ∀ i l, wfi i → x.S i = some l → x.has i = true) (ao : Option Addr) (c : Nat) (L : List Int) (hL : L.length < 1000000)
    (hc : ∀ j, j < L.length → ∃ a, ao = some a ∧ w.cell? (a.add j) = some (.int .i64 (L.getD j 0)) ∧ ¬ own3 d g m (a.add j).block) (hwf : ∀ z ∈ L, wfi z) (tear at_ : Int) (hwt : wfi tear) (hwa : wfi at_) :
    Calls Try.prog 18 #[.pointer (some ⟨d, 0, none⟩), .slice ao L.length c, .int .i64 tear, .int .i64 at_] w fun e w' => e = .returned (.tuple #[]) ∧ DiskAt Try.prog w' d g m n (x.crash L tear at_) ∧ Frm (own3 d g m) w w' := by
  have H := Lib.hid h
  have HI := Lib.hid hin
  have HC := Lib.hid hc
  have HWF := Lib.hid hwf
  have HWT := Lib.hid hwt
  have HWA := Lib.hid hwa
  clear h hin hc hwf hwt hwa
  go_enter Try.func18, Try.ntmps18
  go_wp2_with fail
  go_loopw [12] (fun u wr => CrRel w d g m n x L u wr) (fun u _ => L.length - (intOf u).toNat)
  case atStart => exact ⟨0, rfl, Nat.zero_le _, H.out, Frm.refl _ _⟩
  case round =>
    obtain ⟨wo, rfl⟩ : ∃ wo : World, wo = wr := ⟨_, rfl⟩
    obtain ⟨j, rfl, hj, hD, hF⟩ := hrel
    have HS := Lib.hid (settles_same (L.take j) x)
    generalize hz : (L.take j).foldl (fun y i => y.settle i 128) x = z at hD HS
    have HZ := Lib.hid hz
    have HF := Lib.hid hF
    have hinz : ∀ i l, wfi i → z.S i = some l → z.has i = true := fun i l hi hl => by rw [has_same HS.out.2]; exact HI.out i l hi (by rw [← HS.out.1]; exact hl)
    clear hz hF
    by_cases hjl : j < L.length
    · have hji : (j : Int) < (L.length : Int) := by omega
      obtain ⟨a, rfl, hcell, hno⟩ := HC.out j hjl
      have hco : wo.cell? (a.add j) = some (.int .i64 (L.getD j 0)) := by
        have hlt := World.block_lt_of_cell? w _ hcell
        exact (World.cell?_of_block (a := a.add j) (HF.out.block _ hlt hno)).trans hcell
      have hwz : wfi (L.getD j 0) := by
        have : L.getD j 0 = L[j] := by simp [List.getD, hjl]
        rw [this]
        exact HWF.out _ (List.getElem_mem hjl)
      have HT := Lib.hid (settle_any hD hinz (L.getD j 0) 128 hwz (by unfold wfi; decide))
      have ez : z.settle (L.getD j 0) 128 = (L.take (j + 1)).foldl (fun y i => y.settle i 128) x := by
        rw [List.take_add_one, List.foldl_append, HZ.out]
        simp [hjl, List.getD]
      rw [ez] at HT
      generalize L.getD j 0 = q at *
      clear hinz hD hcell hno ez
      go_wp2_with (go_at_call 39; refine HT.out.mono ?_; rintro e w2 ⟨rfl, hD2, hF2⟩)
      have HD2 := Lib.hid hD2
      have HF2 := Lib.hid (HF.out.trans hF2)
      clear hD2 hF2
      go_roundw
      case rel => exact ⟨j + 1, by go_num, by omega, HD2.out, HF2.out⟩
      case measure => simp [intOf]; omega
    · obtain rfl : j = L.length := by omega
      have e : L.take L.length = L := List.take_length
      rw [e] at HZ
      have HT := Lib.hid (settle_any hD hinz tear at_ HWT.out HWA.out)
      have HS2 := Lib.hid (settle_same z tear at_)
      clear hinz hD
      go_wp2_with (first | (go_at_call 39; refine HT.out.mono ?_; rintro e w2 ⟨rfl, hD2, hF2⟩; have c3 := hD2.c3; have MP := hD2.map; have HD2 := Lib.hid hD2; have HF2 := Lib.hid hF2; clear hD2 hF2) | (refine wpList_clear _ rfl _ 51 rfl Try.underlying51 rfl MP ?_))
      intro w3 HM ht
      have hD3 := (HD2.out.setMap ht HM).mono (Nat.zero_le n)
      have HCC := Lib.hid (cut_any hD3)
      have HF3 := Lib.hid ((HF.out.trans HF2.out).turned ht (.inl (.inr (.inr rfl))))
      clear HD2 HF2 hD3 MP HM ht c3
      go_wp2_with (go_at_call 40; refine HCC.out.mono ?_; rintro e w4 ⟨rfl, hD4, hF4⟩)
      go_end0
      refine ⟨rfl, ?_, HF3.out.trans hF4⟩
      unfold DS.crash
      rw [HZ.out]
      exact hD4
end Go.Proofs.Ythcliaaoadfegaa.Dk
