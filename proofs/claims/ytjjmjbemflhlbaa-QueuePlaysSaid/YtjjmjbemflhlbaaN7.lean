/- A link comes loose. -/
import Derived.Test.YtjjmjbemflhlbaaN6
namespace Go.Proofs.Ytjjmjbemflhlbaa.Qu
open Go Go.RowKit Go.Proofs.Ytjjmjbemflhlbaa
open Go.Proofs.Ytjjmjbemflhlbaa.Hp (K3 kv KLit wf3 i64wf kv_inj)
open Go.Proofs.Ytjjmjbemflhlbaa.Dk (Frm below_drewN Frm.of_below Frm.setCell Frm.refl Frm.drewN)
set_option linter.unusedVariables false
set_option linter.unusedSimpArgs false
set_option maxRecDepth 100000
variable {w : World} {b o : Nat} {R : Array Value} {ty : TypeId} {mo : Option Nat}
theorem ptr_pointer (q : Option Nat) : ∃ p, ptr q = .pointer p := by cases q <;> exact ⟨_, rfl⟩
theorem loose_any {A B : List Lk} {x : Lk} (h : CAt w b o R ty mo (A ++ x :: B)) : Calls Try.prog 47 #[.pointer (some ⟨b, o, none⟩), .pointer (some ⟨x.ad, 0, none⟩)] w fun e w' =>
    e = .returned (.tuple #[]) ∧ CAt w' b o R ty mo (A ++ B) ∧ Frm (qT b (A ++ B)) w w' := by
  have hcx : LkAt w x (lst A none) (hd B none) := by
    have hc := h.chain
    rw [chain_app] at hc
    exact hc.2.1
  obtain ⟨c0, c1, c2, f0, f1, f2⟩ := h.row.cells
  have x4 : w.cell? ⟨x.ad, 4, none⟩ = some (ptr (lst A none)) := by rw [cell_of_row w x.ad 4 _ _ _ hcx]; rfl
  have x5 : w.cell? ⟨x.ad, 5, none⟩ = some (ptr (hd B none)) := by rw [cell_of_row w x.ad 5 _ _ _ hcx]; rfl
  obtain ⟨ax, hax⟩ : ∃ ax, ax = x.ad := ⟨_, rfl⟩
  rw [← hax] at x4 x5 ⊢
  have HAX := Lib.hid hax
  have H := Lib.hid h
  clear h hcx hax
  cases hl : lst A none with
  | none =>
    obtain ⟨rfl, _⟩ := lst_none hl
    replace x4 : w.cell? ⟨ax, 4, none⟩ = some (.pointer none) := x4
    obtain ⟨q5', hq5'⟩ := ptr_pointer (hd B none)
    obtain ⟨q5, hq5⟩ : ∃ q, Value.pointer q = ptr (hd B none) := ⟨q5', hq5'.symm⟩
    clear hq5'
    rw [← hq5] at x5
    obtain ⟨w1, hw1⟩ : ∃ x, x = w.setCell ⟨b, o, none⟩ (.pointer q5) := ⟨_, rfl⟩
    have M1 := Lib.hid (show MidAt w1 b o R ty mo [] x B by rw [hw1, hq5]; exact CAt.looseNil H.out)
    have F1 := Lib.hid (show Frm (qT b ([] ++ B)) w w1 by rw [hw1]; exact (Frm.refl _ w).setCell (p := ⟨b, o, none⟩) (.inl (.inl rfl)) _)
    have HW1 := Lib.hid hw1
    clear hw1 hq5 hl
    go_enter Try.func47, Try.ntmps47
    go_upto_region 3 with fail
    rw [← HW1.out]
    clear c0 c1 c2 f0 f1 f2 x4 x5
    obtain ⟨d0, d1, d2, g0, g1, g2⟩ := M1.out.row.cells
    have y4 : w1.cell? ⟨ax, 4, none⟩ = some (ptr (lst ([] : List Lk) none)) := by rw [HAX.out, cell_of_row w1 x.ad 4 _ _ _ M1.out.cx]; rfl
    have y5 : w1.cell? ⟨ax, 5, none⟩ = some (ptr (hd B none)) := by rw [HAX.out, cell_of_row w1 x.ad 5 _ _ _ M1.out.cx]; rfl
    obtain ⟨p4, hp4⟩ := ptr_pointer (lst ([] : List Lk) none)
    rw [hp4] at y4
    have HP4 := Lib.hid hp4
    clear hp4
    cases B with
    | nil =>
      replace y5 : w1.cell? ⟨ax, 5, none⟩ = some (.pointer none) := y5
      go_wp2_with fail
      go_end0
      rw [← HP4.out]
      refine ⟨rfl, ?_, ?_⟩
      · try rw [List.append_nil]
        exact M1.out.nil
      · exact F1.out.setCell (p := ⟨b, o + 1, none⟩) (.inl (.inl rfl)) _
    | cons z B =>
      replace y5 : w1.cell? ⟨ax, 5, none⟩ = some (.pointer (some ⟨z.ad, 0, none⟩)) := y5
      have fz : w1.frozen? ⟨z.ad, 4, none⟩ = false := frozen_of_row w1 z.ad 4 _ _ M1.out.cb.1
      have cz : w1.cell? ⟨z.ad, 4, none⟩ = some (ptr (some x.ad)) := by rw [cell_of_row w1 z.ad 4 _ _ _ M1.out.cb.1]; rfl
      obtain ⟨az, hz⟩ : ∃ az, az = z.ad := ⟨_, rfl⟩
      rw [← hz] at y5 fz cz
      have HZ := Lib.hid hz
      clear hz
      go_upto_region 5 with fail
      refine wp_region_quiet_tail 10 (by kernel_rfl) (by kernel_rfl) ?_
      simp only [List.take_succ_cons, List.take_zero, List.drop_succ_cons, List.drop_zero]
      repeat (go_big_quiet_step (fail))
      refine wpQuiet_nil ?_
      intro _ hw'
      obtain ⟨nq, hw''⟩ := hw'
      subst hw''
      obtain ⟨w2, hw2⟩ : ∃ w2, w2 = w1.drewN nq := ⟨_, rfl⟩
      rw [← hw2]
      replace fz : w2.frozen? ⟨az, 4, none⟩ = false := by rw [hw2]; exact fz
      replace cz : w2.cell? ⟨az, 4, none⟩ = some (ptr (some x.ad)) := by rw [hw2]; exact cz
      have M2 := Lib.hid (show MidAt w2 b o R ty mo ([] : List Lk) x (z :: B) by rw [hw2]; exact ⟨⟨M1.out.row.row, M1.out.row.room, M1.out.row.typ⟩, M1.out.ca.keep fun _ _ => rfl, M1.out.cx, M1.out.cb.keep fun _ _ => rfl, M1.out.ads⟩)
      have F2 := Lib.hid (show Frm (qT b (([] : List Lk) ++ z :: B)) w w2 by rw [hw2]; exact F1.out.drewN nq)
      clear hw2 d0 d1 d2 g0 g1 g2 y4 y5
      go_wp2_with fail
      go_end0
      rw [← HP4.out]
      refine ⟨rfl, ?_, ?_⟩
      · rw [HZ.out]
        exact M2.out.some
      · rw [HZ.out]
        exact F2.out.setCell (p := ⟨z.ad, 4, none⟩) (.inl (.inr ⟨z, by simp, rfl⟩)) _
  | some a =>
    rw [hl] at x4
    replace x4 : w.cell? ⟨ax, 4, none⟩ = some (.pointer (some ⟨a, 0, none⟩)) := x4
    obtain ⟨q5', hq5'⟩ := ptr_pointer (hd B none)
    obtain ⟨q5, hq5⟩ : ∃ q, Value.pointer q = ptr (hd B none) := ⟨q5', hq5'.symm⟩
    clear hq5'
    rw [← hq5] at x5
    obtain ⟨A0, y, hA, hya⟩ := lst_some hl
    have hy : LkAt w y (lst A0 none) (some x.ad) := by
      have hc := H.out.chain
      rw [hA, List.append_assoc, chain_app] at hc
      exact hc.2.1
    have fa : w.frozen? ⟨a, 5, none⟩ = false := by rw [← hya]; exact frozen_of_row w y.ad 5 _ _ hy
    have ca : w.cell? ⟨a, 5, none⟩ = some (ptr (some x.ad)) := by rw [← hya, cell_of_row w y.ad 5 _ _ _ hy]; rfl
    have MA := Lib.hid (show ∃ z ∈ A ++ B, z.ad = a from ⟨y, by rw [hA]; simp, hya⟩)
    have HL := Lib.hid hl
    have HQ5 := Lib.hid hq5
    clear hA hya hy hl hq5
    go_enter Try.func47, Try.ntmps47
    go_upto_region 2 with fail
    refine wp_region_quiet_tail 10 (by kernel_rfl) (by kernel_rfl) ?_
    simp only [List.take_succ_cons, List.take_zero, List.drop_succ_cons, List.drop_zero]
    repeat (go_big_quiet_step (fail))
    refine wpQuiet_nil ?_
    intro _ hw'
    obtain ⟨nq, hw''⟩ := hw'
    subst hw''
    obtain ⟨w0, hw0⟩ : ∃ w0, w0 = w.drewN nq := ⟨_, rfl⟩
    rw [← hw0]
    replace fa : w0.frozen? ⟨a, 5, none⟩ = false := by rw [hw0]; exact fa
    replace ca : w0.cell? ⟨a, 5, none⟩ = some (ptr (some x.ad)) := by rw [hw0]; exact ca
    obtain ⟨w1, hw1⟩ : ∃ x, x = w0.setCell ⟨a, 5, none⟩ (.pointer q5) := ⟨_, rfl⟩
    have M1 := Lib.hid (show MidAt w1 b o R ty mo A x B by rw [hw1, HQ5.out]; exact CAt.looseSome (w := w0) (by rw [hw0]; exact H.out.keep rfl fun _ _ => rfl) HL.out)
    have F1 := Lib.hid (show Frm (qT b (A ++ B)) w w1 by rw [hw1, hw0]; exact ((Frm.refl _ w).drewN nq).setCell (p := ⟨a, 5, none⟩) (.inl (.inr MA.out)) _)
    have HW1 := Lib.hid hw1
    clear hw1 hw0 c0 c1 c2 f0 f1 f2 x4 x5
    go_upto_region 3 with fail
    rw [← HW1.out]
    clear fa ca
    obtain ⟨d0, d1, d2, g0, g1, g2⟩ := M1.out.row.cells
    have y4 : w1.cell? ⟨ax, 4, none⟩ = some (ptr (lst A none)) := by rw [HAX.out, cell_of_row w1 x.ad 4 _ _ _ M1.out.cx]; rfl
    have y5 : w1.cell? ⟨ax, 5, none⟩ = some (ptr (hd B none)) := by rw [HAX.out, cell_of_row w1 x.ad 5 _ _ _ M1.out.cx]; rfl
    obtain ⟨p4, hp4⟩ := ptr_pointer (lst A none)
    rw [hp4] at y4
    have HP4 := Lib.hid hp4
    clear hp4
    cases B with
    | nil =>
      replace y5 : w1.cell? ⟨ax, 5, none⟩ = some (.pointer none) := y5
      go_wp2_with fail
      go_end0
      rw [← HP4.out]
      refine ⟨rfl, ?_, ?_⟩
      · try rw [List.append_nil]
        exact M1.out.nil
      · exact F1.out.setCell (p := ⟨b, o + 1, none⟩) (.inl (.inl rfl)) _
    | cons z B =>
      replace y5 : w1.cell? ⟨ax, 5, none⟩ = some (.pointer (some ⟨z.ad, 0, none⟩)) := y5
      have fz : w1.frozen? ⟨z.ad, 4, none⟩ = false := frozen_of_row w1 z.ad 4 _ _ M1.out.cb.1
      have cz : w1.cell? ⟨z.ad, 4, none⟩ = some (ptr (some x.ad)) := by rw [cell_of_row w1 z.ad 4 _ _ _ M1.out.cb.1]; rfl
      obtain ⟨az, hz⟩ : ∃ az, az = z.ad := ⟨_, rfl⟩
      rw [← hz] at y5 fz cz
      have HZ := Lib.hid hz
      clear hz
      go_upto_region 5 with fail
      refine wp_region_quiet_tail 10 (by kernel_rfl) (by kernel_rfl) ?_
      simp only [List.take_succ_cons, List.take_zero, List.drop_succ_cons, List.drop_zero]
      repeat (go_big_quiet_step (fail))
      refine wpQuiet_nil ?_
      intro _ hw'
      obtain ⟨nq, hw''⟩ := hw'
      subst hw''
      obtain ⟨w2, hw2⟩ : ∃ w2, w2 = w1.drewN nq := ⟨_, rfl⟩
      rw [← hw2]
      replace fz : w2.frozen? ⟨az, 4, none⟩ = false := by rw [hw2]; exact fz
      replace cz : w2.cell? ⟨az, 4, none⟩ = some (ptr (some x.ad)) := by rw [hw2]; exact cz
      have M2 := Lib.hid (show MidAt w2 b o R ty mo A x (z :: B) by rw [hw2]; exact ⟨⟨M1.out.row.row, M1.out.row.room, M1.out.row.typ⟩, M1.out.ca.keep fun _ _ => rfl, M1.out.cx, M1.out.cb.keep fun _ _ => rfl, M1.out.ads⟩)
      have F2 := Lib.hid (show Frm (qT b (A ++ z :: B)) w w2 by rw [hw2]; exact F1.out.drewN nq)
      clear hw2 d0 d1 d2 g0 g1 g2 y4 y5
      go_wp2_with fail
      go_end0
      rw [← HP4.out]
      refine ⟨rfl, ?_, ?_⟩
      · rw [HZ.out]
        exact M2.out.some
      · rw [HZ.out]
        exact F2.out.setCell (p := ⟨z.ad, 4, none⟩) (.inl (.inr ⟨z, by simp, rfl⟩)) _
end Go.Proofs.Ytjjmjbemflhlbaa.Qu
