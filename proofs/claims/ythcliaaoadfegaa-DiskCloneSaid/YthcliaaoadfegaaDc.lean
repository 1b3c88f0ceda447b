/- What the small calls of a disk leave: Sectors, Down, Fuse, has, cut, spend, the counts. -/
import Derived.Test.YthcliaaoadfegaaDo
import Derived.Laws.LoneSync
namespace Go.Proofs.Ythcliaaoadfegaa.Dk
open Go Go.RowKit
set_option linter.unusedVariables false
set_option linter.unusedSimpArgs false

variable {w : World} {d g m n : Nat} {x : DS}
theorem sectors_any (h : DiskAt Try.prog w d g m n x) : Calls Try.prog 14 #[.pointer (some ⟨d, 0, none⟩)] w fun e w' => e = .returned (.int .i64 (x.s.length : Int)) ∧ w = w' := by
  have c2 := h.c2
  go_enter Try.func14, Try.ntmps14
  go_wp2
  go_ret
  exact ⟨rfl, rfl⟩
theorem down_any (h : DiskAt Try.prog w d g m n x) : Calls Try.prog 19 #[.pointer (some ⟨d, 0, none⟩)] w fun e w' => e = .returned (.bool x.down) ∧ w = w' := by
  have c5 := h.c5
  go_enter Try.func19, Try.ntmps19
  go_wp2
  go_ret
  exact ⟨rfl, rfl⟩
theorem fuse_any (h : DiskAt Try.prog w d g m n x) (z : Int) (hz : wfi z) : Calls Try.prog 28 #[.pointer (some ⟨d, 0, none⟩), .int .i64 z] w fun e w' => e = .returned (.tuple #[]) ∧ DiskAt Try.prog w' d g m n { x with fuse := z } ∧ Frm (own3 d g m) w w' := by
  have c4 := h.c4
  have f4 := h.free 4
  have H := Lib.hid (h.setFuse hz)
  go_enter Try.func28, Try.ntmps28
  go_wp2
  go_end0
  exact ⟨rfl, H.out, (Frm.refl _ _).setCell (.inl (.inl rfl)) _⟩
theorem cut_any (h : DiskAt Try.prog w d g m n x) : Calls Try.prog 40 #[.pointer (some ⟨d, 0, none⟩)] w fun e w' => e = .returned (.tuple #[]) ∧ DiskAt Try.prog w' d g m n { x with fuse := -1, down := true } ∧ Frm (own3 d g m) w w' := by
  have c4 := h.c4
  have f4 := h.free 4
  have c5 := h.c5
  have f5 := h.free 5
  have H := Lib.hid h
  clear h
  go_enter Try.func40, Try.ntmps40
  go_wp2
  go_end0
  exact ⟨rfl, (H.out.setDown true).setFuse (show wfi (-1) from (by unfold wfi; decide)), ((Frm.refl _ _).setCell (.inl (.inl rfl)) _).setCell (.inl (.inl rfl)) _⟩
theorem has_any (h : DiskAt Try.prog w d g m n x) (i : Int) : Calls Try.prog 35 #[.pointer (some ⟨d, 0, none⟩), .int .i64 i] w fun e w' => e = .returned (.bool (x.has i)) ∧ w = w' := by
  have c2 := h.c2
  unfold DS.has
  by_cases h0 : 0 ≤ i
  · by_cases h1 : i < (x.s.length : Int)
    · go_enter Try.func35, Try.ntmps35
      go_wp2
      go_ret
      exact ⟨by simp [h0, h1], rfl⟩
    · go_enter Try.func35, Try.ntmps35
      go_wp2
      go_ret
      exact ⟨by simp [h0, h1], rfl⟩
  · go_enter Try.func35, Try.ntmps35
    go_wp2
    go_ret
    exact ⟨by simp; omega, rfl⟩
theorem spend_any (h : DiskAt Try.prog w d g m n x) : Calls Try.prog 36 #[.pointer (some ⟨d, 0, none⟩)] w fun e w' => e = .returned (.int .i64 (if x.fuse = 0 then 50 else 0)) ∧ DiskAt Try.prog w' d g m n x.spend ∧ Frm (own3 d g m) w w' := by
  have c4 := h.c4
  have f4 := h.free 4
  have H := Lib.hid h
  unfold DS.spend
  by_cases h0 : x.fuse = 0
  · have C := Lib.hid (cut_any h)
    clear h
    rw [if_pos h0, if_pos h0]
    go_enter Try.func36, Try.ntmps36
    go_wp2_with (go_at_call 40; refine C.out.mono ?_; rintro e w' ⟨rfl, hd, hf⟩)
    go_ret
    exact ⟨rfl, hd, hf⟩
  · clear h
    rw [if_neg h0, if_neg h0]
    by_cases h1 : 0 < x.fuse
    · rw [if_pos h1]
      have hw := H.out.wfu
      have hb := bounds_i64 hw
      have hz : wfi (x.fuse - 1) := WalkArith.wf_i64 (by omega)
      go_enter Try.func36, Try.ntmps36
      go_wp2
      go_ret
      refine ⟨rfl, ?_, (Frm.refl _ _).setCell (.inl (.inl rfl)) _⟩
      exact H.out.setFuse hz
    · rw [if_neg h1]
      go_enter Try.func36, Try.ntmps36
      go_wp2
      go_ret
      exact ⟨rfl, H.out, Frm.refl _ _⟩
theorem Try.add_runs {p : Addr} {z : Int} {w : World} (hc : w.cell? p = some (.int .i64 z)) (hz : w.frozen? p = false) :
    (callFunc 52 #[.pointer (some p), .int .i64 1]).run Try.prog w = .ok (.value (.int .i64 (wrap64 (z + 1)))) (w.setCell p (.int .i64 (wrap64 (z + 1)))) :=
  run_call_add Try.func52 (by kernel_rfl) (by kernel_rfl) (by kernel_rfl) .i64 (by kernel_rfl) hc hz (by simp [go_sem, wrap64, IntKind.wrap_i64])
theorem Try.load_runs {p : Addr} {z : Int} {w : World} (hc : w.cell? p = some (.int .i64 z)) :
    (callFunc 45 #[.pointer (some p)]).run Try.prog w = .ok (.value (.int .i64 z)) w :=
  run_call_load Try.func45 (by kernel_rfl) (by kernel_rfl) (by kernel_rfl) .i64 (by kernel_rfl) hc
theorem wfi_wrap (z : Int) : wfi (wrap64 z) := RowKit.wrap64_wf _
theorem countWrite_any (h : DiskAt Try.prog w d g m n x) : Calls Try.prog 37 #[.pointer (some ⟨d, 0, none⟩)] w fun e w' => e = .returned (.tuple #[]) ∧ DiskAt Try.prog w' d g m n { x with wr := wrap64 (x.wr + 1) } ∧ Frm (own3 d g m) w w' := by
  have c0 := h.c0
  have f0 := h.free 0
  have ha := Try.add_runs c0 f0
  have H := Lib.hid (h.setWr (wfi_wrap (x.wr + 1)))
  clear h
  generalize wrap64 (x.wr + 1) = z at *
  go_enter Try.func37, Try.ntmps37
  go_wp2
  go_end0
  exact ⟨rfl, H.out, (Frm.refl _ _).setCell (.inl (.inl rfl)) _⟩
theorem countFlush_any (h : DiskAt Try.prog w d g m n x) : Calls Try.prog 38 #[.pointer (some ⟨d, 0, none⟩)] w fun e w' => e = .returned (.tuple #[]) ∧ DiskAt Try.prog w' d g m n { x with fl := wrap64 (x.fl + 1) } ∧ Frm (own3 d g m) w w' := by
  have c1 := h.c1
  have f1 := h.free 1
  have ha := Try.add_runs c1 f1
  have H := Lib.hid (h.setFl (wfi_wrap (x.fl + 1)))
  clear h
  generalize wrap64 (x.fl + 1) = z at *
  go_enter Try.func38, Try.ntmps38
  go_wp2
  go_end0
  exact ⟨rfl, H.out, (Frm.refl _ _).setCell (.inl (.inl rfl)) _⟩
theorem writes_any (h : DiskAt Try.prog w d g m n x) : Calls Try.prog 11 #[.pointer (some ⟨d, 0, none⟩)] w fun e w' => e = .returned (.int .i64 x.wr) ∧ w = w' := by
  have ha := Try.load_runs h.c0
  clear h
  go_enter Try.func11, Try.ntmps11
  go_wp2
  go_ret
  exact ⟨rfl, rfl⟩
theorem flushes_any (h : DiskAt Try.prog w d g m n x) : Calls Try.prog 12 #[.pointer (some ⟨d, 0, none⟩)] w fun e w' => e = .returned (.int .i64 x.fl) ∧ w = w' := by
  have ha := Try.load_runs h.c1
  clear h
  go_enter Try.func12, Try.ntmps12
  go_wp2
  go_ret
  exact ⟨rfl, rfl⟩
theorem DS.spend_ok {x : DS} (h : ¬ x.fuse = 0) : x.spend.down = x.down ∧ x.spend.S = x.S ∧ x.spend.s = x.s ∧ x.spend.wr = x.wr ∧ x.spend.fl = x.fl := by
  unfold DS.spend
  rw [if_neg h]
  split <;> exact ⟨rfl, rfl, rfl, rfl, rfl⟩
end Go.Proofs.Ythcliaaoadfegaa.Dk
