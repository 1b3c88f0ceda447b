/- A task waits no more. -/
import Derived.Test.YtjjmjbemflhlbaaN8
namespace Go.Proofs.Ytjjmjbemflhlbaa.Qu
open Go Go.RowKit Go.Proofs.Ytjjmjbemflhlbaa
open Go.Proofs.Ytjjmjbemflhlbaa.Hp (K3 kv KLit wf3 i64wf kv_inj)
open Go.Proofs.Ytjjmjbemflhlbaa.Dk (Frm below_drewN Frm.of_below Frm.setCell Frm.refl Frm.drewN Frm.turned Frm.trans Frm.mono)
set_option linter.unusedVariables false
set_option linter.unusedSimpArgs false
set_option maxRecDepth 100000
variable {w : World} {b o : Nat} {R : Array Value} {ty : TypeId} {mo : Option Nat} {L : List Lk}
theorem qremove_no (h : QAt w b o R ty mo L) (k : K3) (hk : wf3 k) (hno : adOf L k = none) : Calls Try.prog 17 #[.pointer (some ⟨b, o, none⟩), .agg (kcs k).toArray] w fun e w' => e = .returned (.bool false) ∧ Below w.heap.size w w' := by
  obtain ⟨w1, hw1⟩ : ∃ x, x = w.alloc (.cells (kcs k).toArray 32) := ⟨_, rfl⟩
  obtain ⟨g, hg⟩ : ∃ g, g = w.heap.size := ⟨_, rfl⟩
  have b1 : Below w.heap.size w w1 := by rw [hw1]; exact (Below.refl _ _).alloc (Nat.le_refl _) _
  have KT : ∀ j v, (kcs k)[j]? = some v → w1.cell? ((⟨g, 0, none⟩ : Addr).add j) = some v := by rw [hw1, hg]; exact box_task w k
  obtain ⟨c0, c1, c2, f0, f1, f2⟩ := (h.below b1).c.row.cells
  have LK := fun n => ((h.below b1).below (below_drewN (Below.refl _ _) n)).map.look qu_keyP hk
  rw [hno] at LK
  have LKK : ∀ n, (Instr.lookup 27 (.map mo) (.agg (kcs k).toArray) true).run Try.prog (w1.drewN n) = .ok (.tuple #[.pointer none, .bool false]) (w1.drewN n) := fun n => by rw [← kv_eq]; exact LK n
  have HW := Lib.hid hw1
  have HG := Lib.hid hg
  have B1 := Lib.hid b1
  clear h hw1 hg b1 f0 f1 f2 LK hno
  go_enter Try.func17, Try.ntmps17
  go_upto_region 1 with fail
  rw [← HW.out, ← HG.out]
  refine wp_region_quiet_lit (by kernel_rfl) (by kernel_rfl) ?_
  repeat (go_big_quiet_step (fail))
  refine wpQuiet_loadG (by kernel_rfl) 32 (.tmp 3) rfl ⟨g, 0, none⟩ rfl (kcs k) _ (fun w' hC => by obtain ⟨nl, rfl⟩ := hC; exact KT) Try.underlying32 rfl (tkSize k) ?_
  simp only [Act.put, List.setIfInBounds_toArray, List.set_cons_zero, List.set_cons_succ, List.getElem_toArray, List.getElem_cons_zero, List.getElem_cons_succ]
  repeat (go_big_quiet_step (fail))
  refine wpQuiet_nil ?_
  intro _ hw'
  obtain ⟨nq, hw''⟩ := hw'
  subst hw''
  go_wp2_with fail
  go_ret
  exact ⟨rfl, below_drewN B1.out nq⟩
theorem Frm.turnedK {T : Nat → Prop} {a w w' : World} (h : Frm T a w) {m : Nat} (ht : w.mapTurned w' m) (hm : T m ∨ a.heap.size ≤ m) : Frm T a w' := h.turned ht hm
theorem turned_block {w w' : World} {m q : Nat} (ht : w.mapTurned w' m) (hq : q ≠ m) (hlt : q < w.heap.size) : w'.heap[q]? = w.heap[q]? := ht.grown.block q hlt (fun e => by cases e; exact hq rfl)
theorem qremove_yes {A B : List Lk} {x : Lk} (h : QAt w b o R ty mo (A ++ x :: B)) : Calls Try.prog 17 #[.pointer (some ⟨b, o, none⟩), .agg (kcs x.key).toArray] w fun e w' => e = .returned (.bool true) ∧ QAt w' b o R ty mo (A ++ B) ∧ Frm (own b mo (A ++ x :: B)) w w' := by
  obtain ⟨w1, hw1⟩ : ∃ y, y = w.alloc (.cells (kcs x.key).toArray 32) := ⟨_, rfl⟩
  obtain ⟨g, hg⟩ : ∃ g, g = w.heap.size := ⟨_, rfl⟩
  have b1 : Below w.heap.size w w1 := by rw [hw1]; exact (Below.refl _ _).alloc (Nat.le_refl _) _
  have n1 : w1.heap[g]? = some (.cells (kcs x.key).toArray 32 (0, 0)) := by rw [hw1, hg]; exact heap_alloc_new _ _
  have KT : ∀ j v, (kcs x.key)[j]? = some v → w1.cell? ((⟨g, 0, none⟩ : Addr).add j) = some v := by rw [hw1, hg]; exact box_task w x.key
  obtain ⟨m, rfl⟩ : ∃ m, mo = some m := by
    cases mo with
    | none => have := h.map.1; simp at this
    | some m => exact ⟨m, rfl⟩
  obtain ⟨c0, c1, c2, f0, f1, f2⟩ := (h.below b1).c.row.cells
  have hwf := (h.wf x (by simp)).1
  have LK := fun n => ((h.below b1).below (below_drewN (Below.refl _ _) n)).map.look qu_keyP hwf
  rw [adOf_mid h.keys] at LK
  obtain ⟨ax, hax⟩ : ∃ ax, ax = x.ad := ⟨_, rfl⟩
  rw [← hax] at LK
  have LKK : ∀ n, (Instr.lookup 27 (.map (some m)) (.agg (kcs x.key).toArray) true).run Try.prog (w1.drewN n) = .ok (.tuple #[.pointer (some ⟨ax, 0, none⟩), .bool true]) (w1.drewN n) := fun n => by rw [← kv_eq]; exact LK n
  have H1 := Lib.hid (h.below b1)
  have HW := Lib.hid hw1
  have HG := Lib.hid hg
  have B1 := Lib.hid b1
  have N1 := Lib.hid n1
  have HAX := Lib.hid hax
  have WF := Lib.hid hwf
  have GNE := Lib.hid (show ¬ own b (some m) (A ++ x :: B) g from fun e => by have := h.lt e; omega)
  clear h hw1 hg b1 n1 f0 f1 f2 LK hax hwf c0 c1
  go_enter Try.func17, Try.ntmps17
  go_upto_region 1 with fail
  rw [← HW.out, ← HG.out]
  refine wp_region_quiet_lit (by kernel_rfl) (by kernel_rfl) ?_
  repeat (go_big_quiet_step (fail))
  refine wpQuiet_loadG (by kernel_rfl) 32 (.tmp 3) rfl ⟨g, 0, none⟩ rfl (kcs x.key) _ (fun w' hC => by obtain ⟨nl, rfl⟩ := hC; exact KT) Try.underlying32 rfl (tkSize x.key) ?_
  simp only [Act.put, List.setIfInBounds_toArray, List.set_cons_zero, List.set_cons_succ, List.getElem_toArray, List.getElem_cons_zero, List.getElem_cons_succ]
  repeat (go_big_quiet_step (fail))
  refine wpQuiet_nil ?_
  intro _ hw'
  obtain ⟨nq, hw''⟩ := hw'
  subst hw''
  obtain ⟨w2, hw2⟩ : ∃ y, y = w1.drewN nq := ⟨_, rfl⟩
  rw [← hw2]
  have b2 : Below w1.heap.size w1 w2 := by rw [hw2]; exact below_drewN (Below.refl _ _) nq
  have H2 := Lib.hid (H1.out.below b2)
  have N2 := Lib.hid ((b2.block g (lt_of_rowW N1.out)).trans N1.out)
  have B2 := Lib.hid (B1.out.trans (b2.mono B1.out.size))
  have LO := Lib.hid (loose_any H2.out.c)
  rw [← HAX.out] at LO
  clear hw2 b2 KT c2 LKK
  go_wp2_with fail
  refine LO.out.mono ?_
  rintro e w3 ⟨rfl, hC3, hF3⟩
  have mne := H2.out.msep rfl
  have nm : ¬ qT b (A ++ B) m := by
    rintro (e | ⟨y, hy, e⟩)
    · exact mne.1 e
    · exact mne.2 y (by rcases List.mem_append.1 hy with hy | hy <;> simp [hy]) e
  have hsub : ∀ q, qT b (A ++ B) q → own b (some m) (A ++ x :: B) q := by
    rintro q (e | ⟨y, hy, e⟩)
    · exact .inl e
    · exact .inr (.inr ⟨y, by rcases List.mem_append.1 hy with hy | hy <;> simp [hy], e⟩)
  have m3 : MapP Try.prog 32 w3 (some m) (A ++ x :: B).length (adOf (A ++ x :: B)) := H2.out.map.keep (fun m' hm' => by cases hm'; exact hF3.block m H2.out.map.lt nm)
  have n3 : w3.heap[g]? = some (.cells (kcs x.key).toArray 32 (0, 0)) := (hF3.block g (lt_of_rowW N2.out) (fun e => GNE.out (hsub g e))).trans N2.out
  have f3 : Frm (own b (some m) (A ++ x :: B)) w w3 := (Frm.of_below B2.out (Nat.le_refl _)).trans (hF3.mono fun q _ hq => hsub q hq)
  have KT : ∀ j v, (kcs x.key)[j]? = some v → w3.cell? ((⟨g, 0, none⟩ : Addr).add j) = some v := fun j v hj => by
    rw [Addr.add_mid, Nat.zero_add, cell_of_row _ _ j _ _ _ n3]
    simpa using hj
  obtain ⟨c0, c1, c2, f0, f1, f2⟩ := hC3.row.cells
  have C3 := Lib.hid hC3
  have M3 := Lib.hid m3
  have F3 := Lib.hid f3
  have MNE := Lib.hid mne
  clear hC3 hF3 mne nm hsub m3 n3 f3 f0 f1 f2 c0 c1
  go_upto_region 5 with fail
  refine wp_region_quiet_tail 5 (by kernel_rfl) (by kernel_rfl) ?_
  simp only [List.take_succ_cons, List.take_zero, List.drop_succ_cons, List.drop_zero]
  repeat (go_big_quiet_step (fail))
  refine wpQuiet_loadG (by kernel_rfl) 32 (.tmp 3) rfl ⟨g, 0, none⟩ rfl (kcs x.key) _ (fun w' hC => by obtain ⟨nl, rfl⟩ := hC; exact KT) Try.underlying32 rfl (tkSize x.key) ?_
  simp only [Act.put, List.setIfInBounds_toArray, List.set_cons_zero, List.set_cons_succ, List.getElem_toArray, List.getElem_cons_zero, List.getElem_cons_succ]
  refine wpQuiet_nil ?_
  intro _ hw'
  obtain ⟨nq, hw''⟩ := hw'
  subst hw''
  obtain ⟨w4, hw4⟩ : ∃ y, y = w3.drewN nq := ⟨_, rfl⟩
  rw [← hw4]
  have b4 : Below w3.heap.size w3 w4 := by rw [hw4]; exact below_drewN (Below.refl _ _) nq
  have C4 := Lib.hid (C3.out.keep (w' := w4) (b4.block b C3.out.row.lt) (fun x hx => b4.block _ (C3.out.chain.lt x hx)))
  have M4 := Lib.hid (M3.out.keep (w' := w4) (fun m' hm' => by cases hm'; exact b4.block m M3.out.lt))
  have F4 := Lib.hid (show Frm (own b (some m) (A ++ x :: B)) w w4 by rw [hw4]; exact F3.out.drewN nq)
  clear hw4 b4 KT c2
  go_wp2_with (with_reducible show wpList _ _ _ _ _ _; refine wpList_delP rfl (.tmp 26) (.tmp 27) rfl qu_keyP (by with_unfolding_all rfl) M4.out (x := x.key) (by with_unfolding_all rfl) WF.out ?_; rintro w5 hM5 hT5)
  go_ret
  have hsome : (adOf (A ++ x :: B) x.key).isSome = true := by rw [adOf_mid H1.out.keys]; rfl
  rw [hsome, if_pos rfl] at hM5
  refine ⟨rfl, ⟨?_, ?_, ?_, ?_, ?_⟩, F4.out.turned hT5 (.inl (.inr (.inl rfl)))⟩
  · refine C4.out.keep (turned_block hT5 (fun e => MNE.out.1 e.symm) C4.out.row.lt) fun y hy => turned_block hT5 (MNE.out.2 y ?_) (C4.out.chain.lt y hy)
    rcases List.mem_append.1 hy with hy | hy <;> simp [hy]
  · have hl : (A ++ B).length = (A ++ x :: B).length - 1 := by simp
    rw [hl]
    exact hM5.ext fun y => by rw [adOf_rest H1.out.keys]
  · exact fun y hy => H1.out.wf y (by rcases List.mem_append.1 hy with hy | hy <;> simp [hy])
  · have hk := H1.out.keys
    simp only [List.map_append, List.map_cons, List.nodup_append, List.nodup_cons] at hk ⊢
    exact ⟨hk.1, hk.2.1.2, fun p hp q hq => hk.2.2 p hp q (by simp at hq ⊢; right; exact hq)⟩
  · have := H1.out.few; simp at this ⊢; omega
end Go.Proofs.Ytjjmjbemflhlbaa.Qu
