/- What play asks more: a write of any bytes, and a byte that isn't there. -/
import Derived.Test.YthcliaaoadfegaaDy
import Derived.Test.YthcliaaoadfegaaDu
import Derived.Test.YthcliaaoadfegaaDj
import Derived.Test.YthcliaaoadfegaaSp
import Derived.Test.YthcliaaoadfegaaZq
namespace Go.Proofs.Ythcliaaoadfegaa.Dk
open Go Go.RowKit
set_option linter.unusedVariables false
set_option linter.unusedSimpArgs false
variable {w : World} {d g m n : Nat} {x : DS}
set_option maxRecDepth 100000 in
set_option maxHeartbeats 2000000 in
theorem write_sl (h : DiskAt Try.prog w d g m n x) (hn : n < maxLen) (i : Int) (hw : wfi i) {ao : Option Addr} {b : List UInt8} {c : Nat} (hS : Sl w (.slice ao b.length c) b) (hno : 0 < b.length → ∀ a, ao = some a → ¬ own3 d g m a.block) :
    Calls Try.prog 15 #[.pointer (some ⟨d, 0, none⟩), .int .i64 i, .slice ao b.length c] w fun e w' => e = .returned (.int .i64 (x.wcode i b.length)) ∧ DiskAt Try.prog w' d g m (n + 1) (x.write i b) ∧ Frm (own3 d g m) w w' := by
  have c5 := h.c5
  have H1 := Lib.hid (h.mono (Nat.le_succ n))
  unfold DS.write DS.wcode
  by_cases hd : x.down = true
  · rw [if_pos hd, if_pos hd]
    rw [hd] at c5
    clear h
    go_enter Try.func15, Try.ntmps15
    go_wp2_with fail
    go_ret
    exact ⟨rfl, H1.out, Frm.refl _ _⟩
  rw [if_neg hd, if_neg hd]
  have hd' : x.down = false := by simpa using hd
  rw [hd'] at c5
  have HA := Lib.hid (has_any h i)
  by_cases hh : x.has i = false
  · rw [if_pos hh, if_pos hh]
    rw [hh] at HA
    clear h
    go_enter Try.func15, Try.ntmps15
    go_wp2_with (go_at_call 35; refine HA.out.mono ?_; rintro e w' ⟨rfl, rfl⟩)
    go_ret
    exact ⟨rfl, H1.out, Frm.refl _ _⟩
  rw [if_neg hh, if_neg hh]
  have ht : x.has i = true := by simpa using hh
  rw [ht] at HA
  by_cases h2 : 128 < b.length
  · rw [if_pos h2, if_pos h2]
    have h2i : (128 : Int) < (b.length : Int) := by omega
    clear h
    go_enter Try.func15, Try.ntmps15
    go_wp2_with (go_at_call 35; refine HA.out.mono ?_; rintro e w' ⟨rfl, rfl⟩)
    go_ret
    exact ⟨rfl, H1.out, Frm.refl _ _⟩
  rw [if_neg h2, if_neg h2]
  have h2i : ¬ (128 : Int) < (b.length : Int) := by omega
  by_cases h3 : b.length < 128
  · rw [if_pos h3, if_pos h3]
    have h3i : (b.length : Int) < 128 := by omega
    clear h
    go_enter Try.func15, Try.ntmps15
    go_wp2_with (go_at_call 35; refine HA.out.mono ?_; rintro e w' ⟨rfl, rfl⟩)
    go_ret
    exact ⟨rfl, H1.out, Frm.refl _ _⟩
  rw [if_neg h3, if_neg h3]
  have hl : b.length = 128 := by omega
  have HP := Lib.hid (spend_any h)
  by_cases h0 : x.fuse = 0
  · rw [if_pos h0, if_pos h0]
    rw [if_pos h0] at HP
    clear h h2 h3
    rw [hl] at h2i ⊢
    go_enter Try.func15, Try.ntmps15
    go_wp2_with (first | (go_at_call 35; refine HA.out.mono ?_; rintro e w' ⟨rfl, rfl⟩) | (go_at_call 36; refine HP.out.mono ?_; rintro e w' ⟨rfl, hD, hF⟩))
    go_ret
    exact ⟨rfl, hD.mono (Nat.le_succ n), hF⟩
  rw [if_neg h0, if_neg h0]
  rw [if_neg h0] at HP
  obtain ⟨a, rfl, hr⟩ : ∃ a, ao = some a ∧ ∀ j u, (bvs b)[j]? = some u → w.cell? (a.add j) = some u := by
    obtain ⟨ao', c', e, hn0, hc⟩ := hS
    injection e with e1 e2 e3
    subst e1
    cases ao with
    | none => have := hn0 rfl; rw [this] at hl; simp at hl
    | some a => exact ⟨a, rfl, hc a rfl⟩
  have hkd := hno (by omega) a rfl
  obtain ⟨q1, q2, q3, q4, q5⟩ := DS.spend_ok h0
  clear h h2 h3 hS hno
  rw [hl] at h2i ⊢
  go_enter Try.func15, Try.ntmps15
  go_wp2_with (first | (go_at_call 35; refine HA.out.mono ?_; rintro e w' ⟨rfl, rfl⟩) | (go_at_call 36; refine HP.out.mono ?_; rintro e w1 ⟨rfl, hD, hF⟩))
  have c3 := hD.c3
  have hr1 : ∀ j u, (bvs b)[j]? = some u → w1.cell? (a.add j) = some u := fun j u hu => by
    have h0 := hr j u hu
    have hlt := World.block_lt_of_cell? w _ h0
    have eb : (a.add j).block = a.block := by unfold Addr.add; split <;> rfl
    exact (World.cell?_of_block (hF.block _ hlt (by rw [eb]; exact hkd))).trans h0
  have hbl : (Try.prog.info? 75).map (·.size) = some (bvs b).length := by rw [bvs_length, hl]; exact Try.sec128
  have MP := hD.map
  rw [q2] at MP
  have HD := Lib.hid hD
  clear hD
  have har := fun w => run_arrayAt Try.underlying75 a 128 c (Nat.le_refl _) w
  refine wp_region_quiet_tail 8 (by kernel_rfl) (by kernel_rfl) ?_
  simp only [List.take_succ_cons, List.take_zero, List.drop_succ_cons, List.drop_zero]
  (repeat (go_big_quiet_step (fail)))
  refine wpQuiet_loadZ rfl 75 (.tmp 37) rfl a rfl (bvs b) _ (fun w' hw' => by obtain ⟨_, rfl⟩ := hw'; exact hr1) Try.underlying75 rfl hbl ?_
  refine wpQuiet_nil ?_
  intro _ hw'
  obtain ⟨nq, hw''⟩ := hw'
  subst hw''
  go_wp2_with (at_mapUpdate; refine wpList_put _ rfl _ _ _ 51 rfl Try.underlying3 Try.underlying51 rfl MP hn rfl hw hl rfl ?_)
  intro w2 HM ht
  have hD2 := (HD.out.drewN nq).setMap ht HM
  have hF2 := (hF.drewN nq).turned ht (.inl (.inr (.inr rfl)))
  have HC := Lib.hid (countWrite_any hD2)
  dsimp only at HC
  rw [q4] at HC
  clear MP HD hD2 HM ht har hr1 hr c3 hF
  go_wp2_with (go_at_call 37; refine HC.out.mono ?_; rintro e w3 ⟨rfl, hD3, hF3⟩)
  go_ret
  exact ⟨rfl, hD3, hF2.trans hF3⟩
set_option maxRecDepth 100000 in
set_option maxHeartbeats 800000 in
theorem spoil_bad (h : DiskAt Try.prog w d g m n x) (i q : Int) (v : Int) (hb : x.has i = false ∨ q < 0 ∨ 128 ≤ q) :
    Calls Try.prog 29 #[.pointer (some ⟨d, 0, none⟩), .int .i64 i, .int .i64 q, .int .u8 v] w fun e w' => e = .returned (.int .i64 1) ∧ DiskAt Try.prog w' d g m n x ∧ Below w.heap.size w w' := by
  have HH := Lib.hid (has_any h i)
  have HD := Lib.hid h
  clear h
  cases hh : x.has i with
  | false =>
    rw [hh] at HH
    clear hh hb
    go_enter Try.func29, Try.ntmps29
    go_wp2_with (go_at_call 35; refine HH.out.mono ?_; rintro e w' ⟨rfl, rfl⟩)
    go_ret
    exact ⟨rfl, HD.out, Below.refl _ _⟩
  | true =>
    rw [hh] at HH hb
    have hb2 : q < 0 ∨ 128 ≤ q := by simpa using hb
    clear hh hb
    by_cases h0 : q < 0
    · clear hb2
      go_enter Try.func29, Try.ntmps29
      go_wp2_with (go_at_call 35; refine HH.out.mono ?_; rintro e w' ⟨rfl, rfl⟩)
      go_ret
      exact ⟨rfl, HD.out, Below.refl _ _⟩
    · have h1 : 128 ≤ q := by omega
      clear hb2
      go_enter Try.func29, Try.ntmps29
      go_wp2_with (go_at_call 35; refine HH.out.mono ?_; rintro e w' ⟨rfl, rfl⟩)
      go_ret
      exact ⟨rfl, HD.out, Below.refl _ _⟩
end Go.Proofs.Ythcliaaoadfegaa.Dk
