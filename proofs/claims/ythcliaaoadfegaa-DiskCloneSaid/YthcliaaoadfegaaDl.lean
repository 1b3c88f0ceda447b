/- What a disk's call Flush leaves. -/
import Derived.Test.YthcliaaoadfegaaDw
import Derived.Test.YthcliaaoadfegaaQt
import Derived.Maps.RangeWalk
namespace Go.Proofs.Ythcliaaoadfegaa.Dk
open Go Go.RowKit
set_option linter.unusedVariables false
set_option linter.unusedSimpArgs false

variable {w : World} {d g m n : Nat} {x : DS}
theorem laid_start (s : List (List UInt8)) (S : Int → Option (List UInt8)) : laid s S (fun i => (S i).isSome) = s := by
  unfold laid
  apply List.ext_getElem?
  intro i
  rw [List.getElem?_mapIdx]
  cases s[i]? with
  | none => rfl
  | some b => cases h : S (i : Int) <;> simp [h]
theorem laid_length (s : List (List UInt8)) (S : Int → Option (List UInt8)) (left : Int → Bool) : (laid s S left).length = s.length := by simp [laid]
theorem laid_step {s : List (List UInt8)} {S : Int → Option (List UInt8)} {left : Int → Bool} {i : Nat} {l : List UInt8} (hS : S (i : Int) = some l) : (laid s S left).set i l = laid s S (fun y => left y && !decide (y = (i : Int))) := by
  unfold laid
  apply List.ext_getElem?
  intro j
  rw [List.getElem?_set, List.length_mapIdx, List.getElem?_mapIdx, List.getElem?_mapIdx]
  by_cases h : i = j
  · subst h
    rw [if_pos rfl]
    by_cases hi : i < s.length
    · simp [hi, hS]
    · simp [hi]
  · rw [if_neg h]
    have : decide ((j : Int) = (i : Int)) = false := by simp; omega
    simp [this]
theorem laid_end {s : List (List UInt8)} {S : Int → Option (List UInt8)} {left : Int → Bool} (hs : s.length ≤ 4096) (h : ∀ x, wfi x → left x = false) : laid s S left = laid s S (fun _ => false) := by
  unfold laid
  apply List.ext_getElem?
  intro j
  rw [List.getElem?_mapIdx, List.getElem?_mapIdx]
  by_cases hj : j < s.length
  · have := h (j : Int) (WalkArith.wf_i64 (by omega))
    simp [this]
  · simp [hj]
/-- What the loop of Flush keeps. -/
def FlRel (w1 : World) (d g m n r : Nat) (z : DS) (wr : World) : Prop :=
  ∃ left cnt, MapRange Try.prog 3 wr m r n z.S left cnt ∧ DiskAt Try.prog wr d g m n { z with s := laid z.s z.S left } ∧ Frm (own3 d g m) w1 wr
theorem DiskAt.few' {P : Program} {w : World} {d g m n : Nat} {z : DS} {S : Int → Option (List UInt8)} {left : Int → Bool} (h : DiskAt P w d g m n { z with s := laid z.s S left }) : z.s.length ≤ 4096 := by
  have := h.few
  dsimp only at this
  rwa [laid_length] at this
theorem MapRange.dist {P : Program} {k : TypeId} {w : World} {m r n cnt : Nat} {S : Int → Option (List UInt8)} {left : Int → Bool} (h : MapRange P k w m r n S left cnt) {g : Nat} {cs : Array Value} {ty : TypeId} {fr : Nat × Nat} (hg : w.heap[g]? = some (.cells cs ty fr)) : r ≠ g := by
  obtain ⟨D, L, ⟨es, c, si, se, c0, h1, h2, h3, h4, h5, h6⟩, h7⟩ := h
  rintro rfl
  rw [hg] at h5
  cases h5
set_option maxRecDepth 100000 in
set_option maxHeartbeats 2000000 in
theorem flush_any (h : DiskAt Try.prog w d g m n x) (hin : ∀ i l, wfi i → x.S i = some l → x.has i = true) : Calls Try.prog 17 #[.pointer (some ⟨d, 0, none⟩)] w fun e w' => e = .returned (.int .i64 x.fcode) ∧ DiskAt Try.prog w' d g m n x.flush ∧ Frm (own3 d g m) w w' := by
  have c5 := h.c5
  unfold DS.fcode DS.flush
  by_cases hd : x.down = true
  · rw [if_pos hd, if_pos hd]
    rw [hd] at c5
    have H := Lib.hid h
    clear h
    go_enter Try.func17, Try.ntmps17
    go_wp2_with fail
    go_ret
    exact ⟨rfl, H.out, Frm.refl _ _⟩
  rw [if_neg hd, if_neg hd]
  have hd' : x.down = false := by simpa using hd
  rw [hd'] at c5
  have HP := Lib.hid (spend_any h)
  by_cases h0 : x.fuse = 0
  · rw [if_pos h0, if_pos h0]
    rw [if_pos h0] at HP
    clear h
    go_enter Try.func17, Try.ntmps17
    go_wp2_with (go_at_call 36; refine HP.out.mono ?_; rintro e w' ⟨rfl, hD, hF⟩)
    go_ret
    exact ⟨rfl, hD, hF⟩
  rw [if_neg h0, if_neg h0]
  rw [if_neg h0] at HP
  have QQ := Lib.hid (DS.spend_ok h0)
  generalize x.spend = z at *
  have HI := Lib.hid (show ∀ i l, wfi i → z.S i = some l → z.has i = true from fun i l hi hl => by unfold DS.has; rw [QQ.out.2.2.1]; exact hin i l hi (by rw [← QQ.out.2.1]; exact hl))
  clear h hin
  go_enter Try.func17, Try.ntmps17
  go_wp2_with (first | (go_at_call 36; refine HP.out.mono ?_; rintro e w1 ⟨rfl, hD, hF⟩; have c3 := hD.c3; have MP := hD.map; have HD := Lib.hid hD; clear hD) | (at_range; refine wpList_range _ rfl _ 51 rfl Try.underlying3 Try.underlying51 rfl MP ?_))
  intro w2 cnt0 hR hg2 hs2
  have hD2 := HD.out.keep (hg2.block d HD.out.dlt (by simp)) (hg2.block g HD.out.glt (by simp)) (hg2.block m HD.out.mlt (by simp))
  have HD2 := Lib.hid hD2
  have HR := Lib.hid hR
  have hF2 : Frm (own3 d g m) w1 w2 := (Frm.refl _ _).grown hg2 (by intro j e; cases e)
  have HW := Lib.hid hF2
  have dl := HD.out.dlt
  have gl := HD.out.glt
  have ml := HD.out.mlt
  clear hD2 hR hF2 hg2 MP c3
  obtain ⟨r, hr⟩ : ∃ r, r = w1.heap.size := ⟨_, rfl⟩
  rw [← hr] at HR dl gl ml ⊢
  have RR := Lib.hid hr
  clear hs2 hr
  go_wp2_with fail
  go_loopw [4] (fun _ wr => FlRel w1 d g m n r z wr) (fun _ wr => wr.rangeLeft m r)
  case atStart => exact ⟨_, _, HR.out, by rw [laid_start]; exact HD2.out, HW.out⟩
  case round =>
    obtain ⟨wo, rfl⟩ : ∃ wo : World, wo = wr := ⟨_, rfl⟩
    obtain ⟨left, cnt, MR, DA, FA⟩ := hrel
    have HM := Lib.hid MR
    have HA := Lib.hid DA
    have HF := Lib.hid FA
    clear DA FA HR HD2 HW
    go_wp2_with (at_next; refine wpList_next _ rfl (.tmp 19) rfl Try.underlying3 rfl MR ?_ ?_)
    · intro h0 hl
      have hL := laid_end (s := z.s) (S := z.S) HA.out.few' hl
      have hD4 := HA.out
      rw [hL] at hD4
      have c3 := hD4.c3
      have MP := hD4.map
      have HD4 := Lib.hid hD4
      clear hD4 hL MR HA HM
      go_wp2_with (refine wpList_clear _ rfl _ 51 rfl Try.underlying51 rfl MP ?_)
      intro w4 HM4 ht4
      have hD5 := (HD4.out.setMap ht4 HM4).mono (Nat.zero_le n)
      have hF5 := HF.out.turned ht4 (.inl (.inr (.inr rfl)))
      have HC := Lib.hid (countFlush_any hD5)
      dsimp only at HC
      obtain ⟨q1, q2, q3, q4, q5⟩ := QQ.out
      rw [q2, q3, q5] at HC
      clear MP HD4 hD5 HM4 ht4 c3 q1 q2 q3 q4 q5
      go_wp2_with (go_at_call 38; refine HC.out.mono ?_; rintro e w6 ⟨rfl, hD6, hF6⟩)
      go_ret
      exact ⟨rfl, hD6, hF.trans (hF5.trans hF6)⟩
    · intro i l w3 cnt3 hwi h128 hSi hli MR3 hlt hg3 hs3 hen
      have hz := HI.out i l hwi hSi
      simp [DS.has] at hz
      obtain ⟨k, rfl⟩ : ∃ k : Nat, i = (k : Int) := ⟨i.toNat, by omega⟩
      have hk : k < z.s.length := by omega
      have hDo := HA.out
      have nr := Lib.hid (show d ≠ r ∧ g ≠ r ∧ m ≠ r from ⟨by omega, by omega, by omega⟩)
      have hD3 := hDo.keep (hg3.block d hDo.dlt (by intro e; cases e; exact nr.out.1 rfl)) (hg3.block g hDo.glt (by intro e; cases e; exact nr.out.2.1 rfl)) (hg3.block m hDo.mlt (by intro e; cases e; exact nr.out.2.2 rfl))
      have hF3 := HF.out.grown hg3 (fun j e => .inr (by cases e; have := RR.out; omega))
      obtain ⟨w4, hw4⟩ : ∃ w4, w4 = w3.alloc (.cells (bvs l).toArray 75) := ⟨_, rfl⟩
      have hD4 := hD3.alloc (.cells (bvs l).toArray 75)
      have hF4 := hF3.alloc (.cells (bvs l).toArray 75)
      have hM4 := MR3.keep (Below.heap_alloc w3 (.cells (bvs l).toArray 75) m hD3.mlt) (Below.heap_alloc w3 (.cells (bvs l).toArray 75) r MR3.lt)
      have hb4 := heap_alloc_new w3 (.cells (bvs l).toArray 75)
      rw [← hw4] at hD4 hF4 hM4 hb4
      have c2 := hD4.c2
      have hlen : (laid z.s z.S left).length = z.s.length := laid_length _ _ _
      dsimp only at c2
      rw [hlen] at c2
      have hra : w4.rangeAt w3.heap.size 0 (bvs l) := by
        intro j v hv
        rw [cell_of_row w4 w3.heap.size (0 + j) _ _ _ hb4, Nat.zero_add]
        simpa using hv
      have hki : (k : Int) < (z.s.length : Int) := by omega
      have hlt' : cnt3 < wo.rangeLeft m r := by rw [MR.left_eq]; exact hlt
      have H4 := Lib.hid hD4
      have F4 := Lib.hid hF4
      have M4 := Lib.hid hM4
      have LT := Lib.hid hlt'
      have HL := Lib.hid hlen
      have HS := Lib.hid hSi
      clear hD4 hF4 hM4 hD3 hF3 hDo MR MR3 HM HA hlt hlt' hg3 hs3 hlen hSi hli hb4
      have HW4 := Lib.hid hw4
      clear hw4
      have hbl : (Try.prog.info? 75).map (·.size) = some (bvs l).length := by rw [bvs_length, h128]; exact Try.sec128
      go_wp2_with (refine wpList_store_new rfl 75 (.tmp 5) (.tmp 24) rfl 75 Try.zeroCells75 (bvs l).toArray rfl rfl (Try.secSize h128) (Try.zeroSize h128) (all_bvs l) ?_)
      rw [← HW4.out]
      simp only [Act.put, List.setIfInBounds_toArray, List.set_cons_zero, List.set_cons_succ, List.getElem_toArray, List.getElem_cons_zero, List.getElem_cons_succ]
      refine wp_region_quiet_tail 7 (by kernel_rfl) (by kernel_rfl) ?_
      simp only [List.take_succ_cons, List.take_zero, List.drop_succ_cons, List.drop_zero]
      (repeat (go_big_quiet_step (fail)))
      refine wpQuiet_load_mid rfl 75 (.tmp 5) rfl w3.heap.size 0 rfl (bvs l) _ (fun w' hw' => by obtain ⟨_, rfl⟩ := hw'; exact hra) Try.underlying75 rfl hbl ?_
      simp only [Act.put, List.setIfInBounds_toArray, List.set_cons_zero, List.set_cons_succ, List.getElem_toArray, List.getElem_cons_zero, List.getElem_cons_succ]
      (repeat (go_big_quiet_step (fail)))
      refine wpQuiet_nil ?_
      intro _ hw'
      obtain ⟨nq, hw''⟩ := hw'
      subst hw''
      have hth := (H4.out.drewN nq).there (k := k) (by dsimp only; rw [HL.out]; exact hk) h128
      refine wpList_store_mid rfl 75 (.tmp 31) (.tmp 30) rfl g (k * 128) (bvs l).toArray rfl rfl hth (Try.secSize h128) (all_bvs l) ?_
      rw [List.toList_toArray]
      have hD5 := (H4.out.drewN nq).setSure (i := k) (l := l) (by dsimp only; rw [HL.out]; exact hk) h128
      dsimp only at hD5
      rw [laid_step HS.out] at hD5
      have hF5 := (F4.out.drewN nq).setCells (.inl (.inr (.inl rfl))) (bvs l) (k * 128)
      have hM5 := M4.out.keep (w' := (w4.drewN nq).setCells g (k * 128) (bvs l)) (setCells_other H4.out.mg (bvs l) (k * 128) (w4.drewN nq)) (setCells_other (MapRange.dist M4.out H4.out.row) (bvs l) (k * 128) (w4.drewN nq))
      have hlt5 : ((w4.drewN nq).setCells g (k * 128) (bvs l)).rangeLeft m r < wo.rangeLeft m r := by rw [hM5.left_eq]; exact LT.out
      generalize (w4.drewN nq).setCells g (k * 128) (bvs l) = w5 at *
      have REL := Lib.hid (show FlRel w1 d g m n r z w5 from ⟨_, _, hM5, hD5, hF5⟩)
      have LT5 := Lib.hid hlt5
      clear hth hD5 hF5 hM5 hlt5 H4 F4 M4 LT hra c2
      simp only [Act.put, List.setIfInBounds_toArray, List.set_cons_zero, List.set_cons_succ, List.getElem_toArray, List.getElem_cons_zero, List.getElem_cons_succ]
      go_wp2_with fail
      exact ⟨REL.out, LT5.out⟩
end Go.Proofs.Ythcliaaoadfegaa.Dk
