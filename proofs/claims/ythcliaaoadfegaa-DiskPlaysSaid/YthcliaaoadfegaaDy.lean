/- What a disk's calls Write, Flush and New leave. -/
import Derived.Test.YthcliaaoadfegaaDw
import Derived.Test.YthcliaaoadfegaaQt
import Derived.Maps.RangeWalk
import Derived.OwnWalk
namespace Go.Proofs.Ythcliaaoadfegaa.Dk
open Go Go.RowKit
set_option linter.unusedVariables false
set_option linter.unusedSimpArgs false

theorem Frm.range {T : Nat → Prop} {w w' : World} (h : Frm T w w') {k o : Nat} {cs : List Value} (hr : w.rangeAt k o cs) (hk : ¬ T k) : w'.rangeAt k o cs := by
  intro j v hv
  have h1 := hr j v hv
  have hlt := block_lt_of_cell h1
  exact (World.cell?_of_block (a := ⟨k, o + j, none⟩) (h.block k hlt hk)).trans h1
variable {w : World} {d g m n : Nat} {x : DS}
theorem upd_eq (S : Int → Option (List UInt8)) (i : Int) (l : List UInt8) : (fun y => if y = i then some l else S y) = upd S i l := rfl
theorem run_arrayAt {P : Program} {t e : TypeId} {k : Nat} (hu : P.underlying t = some (.array k e)) (p : Addr) (n c : Nat) (hn : k ≤ n) (w : World) : (Instr.arrayAt t (.slice (some p) n c)).run P w = .ok (.pointer (some p)) w := by
  unfold Instr.arrayAt
  simp [run_underlying hu, Result.andThen]
  omega
set_option maxRecDepth 100000 in
set_option maxHeartbeats 2000000 in
theorem write_any (h : DiskAt Try.prog w d g m n x) (hn : n < maxLen) (i : Int) (hw : wfi i) (ao : Option Addr) (b : List UInt8) (c : Nat) (hb : ∀ k o, ao = some ⟨k, o, none⟩ → w.rangeAt k o (bvs b)) (hform : b.length = 128 → ∃ k o, ao = some ⟨k, o, none⟩ ∧ ¬ own3 d g m k) :
    Calls Try.prog 15 #[.pointer (some ⟨d, 0, none⟩), .int .i64 i, .slice ao b.length c] w fun e w' => e = .returned (.int .i64 (x.wcode i b.length)) ∧ DiskAt Try.prog w' d g m (n + 1) (x.write i b) ∧ Frm (own3 d g m) w w' := by
  have c5 := h.c5
  have H1 := Lib.hid (h.mono (Nat.le_succ n))
  unfold DS.write DS.wcode
  by_cases hd : x.down = true
  · rw [if_pos hd, if_pos hd]
    rw [hd] at c5
    clear h
    go_enter Try.func15, Try.ntmps15
    go_wp2_with fail
    go_ret
    exact ⟨rfl, H1.out, Frm.refl _ _⟩
  rw [if_neg hd, if_neg hd]
  have hd' : x.down = false := by simpa using hd
  rw [hd'] at c5
  have HA := Lib.hid (has_any h i)
  by_cases hh : x.has i = false
  · rw [if_pos hh, if_pos hh]
    rw [hh] at HA
    clear h
    go_enter Try.func15, Try.ntmps15
    go_wp2_with (go_at_call 35; refine HA.out.mono ?_; rintro e w' ⟨rfl, rfl⟩)
    go_ret
    exact ⟨rfl, H1.out, Frm.refl _ _⟩
  rw [if_neg hh, if_neg hh]
  have ht : x.has i = true := by simpa using hh
  rw [ht] at HA
  by_cases h2 : 128 < b.length
  · rw [if_pos h2, if_pos h2]
    have h2i : (128 : Int) < (b.length : Int) := by omega
    clear h
    go_enter Try.func15, Try.ntmps15
    go_wp2_with (go_at_call 35; refine HA.out.mono ?_; rintro e w' ⟨rfl, rfl⟩)
    go_ret
    exact ⟨rfl, H1.out, Frm.refl _ _⟩
  rw [if_neg h2, if_neg h2]
  have h2i : ¬ (128 : Int) < (b.length : Int) := by omega
  by_cases h3 : b.length < 128
  · rw [if_pos h3, if_pos h3]
    have h3i : (b.length : Int) < 128 := by omega
    clear h
    go_enter Try.func15, Try.ntmps15
    go_wp2_with (go_at_call 35; refine HA.out.mono ?_; rintro e w' ⟨rfl, rfl⟩)
    go_ret
    exact ⟨rfl, H1.out, Frm.refl _ _⟩
  rw [if_neg h3, if_neg h3]
  have hl : b.length = 128 := by omega
  have HP := Lib.hid (spend_any h)
  by_cases h0 : x.fuse = 0
  · rw [if_pos h0, if_pos h0]
    rw [if_pos h0] at HP
    clear h h2 h3
    rw [hl] at h2i ⊢
    go_enter Try.func15, Try.ntmps15
    go_wp2_with (first | (go_at_call 35; refine HA.out.mono ?_; rintro e w' ⟨rfl, rfl⟩) | (go_at_call 36; refine HP.out.mono ?_; rintro e w' ⟨rfl, hD, hF⟩))
    go_ret
    exact ⟨rfl, hD.mono (Nat.le_succ n), hF⟩
  rw [if_neg h0, if_neg h0]
  rw [if_neg h0] at HP
  obtain ⟨k, o, rfl, hkd⟩ := hform hl
  have hr := hb k o rfl
  obtain ⟨q1, q2, q3, q4, q5⟩ := DS.spend_ok h0
  clear h h2 h3 hb hform
  rw [hl] at h2i ⊢
  go_enter Try.func15, Try.ntmps15
  go_wp2_with (first | (go_at_call 35; refine HA.out.mono ?_; rintro e w' ⟨rfl, rfl⟩) | (go_at_call 36; refine HP.out.mono ?_; rintro e w1 ⟨rfl, hD, hF⟩))
  have c3 := hD.c3
  have hr1 : w1.rangeAt k o (bvs b) := hF.range hr hkd
  have hbl : (Try.prog.info? 75).map (·.size) = some (bvs b).length := by rw [bvs_length, hl]; exact Try.sec128
  have MP := hD.map
  rw [q2] at MP
  have HD := Lib.hid hD
  clear hD
  have har := fun w => run_arrayAt Try.underlying75 ⟨k, o, none⟩ 128 c (Nat.le_refl _) w
  refine wp_region_quiet_tail 8 (by kernel_rfl) (by kernel_rfl) ?_
  simp only [List.take_succ_cons, List.take_zero, List.drop_succ_cons, List.drop_zero]
  (repeat (go_big_quiet_step (fail)))
  refine wpQuiet_load_mid rfl 75 (.tmp 37) rfl k o rfl (bvs b) _ (fun w' hw' => by obtain ⟨_, rfl⟩ := hw'; exact hr1) Try.underlying75 rfl hbl ?_
  refine wpQuiet_nil ?_
  intro _ hw'
  obtain ⟨nq, hw''⟩ := hw'
  subst hw''
  go_wp2_with (at_mapUpdate; refine wpList_put _ rfl _ _ _ 51 rfl Try.underlying3 Try.underlying51 rfl MP hn rfl hw hl rfl ?_)
  intro w2 HM ht
  have hD2 := (HD.out.drewN nq).setMap ht HM
  have hF2 := (hF.drewN nq).turned ht (.inl (.inr (.inr rfl)))
  have HC := Lib.hid (countWrite_any hD2)
  dsimp only at HC
  rw [q4] at HC
  clear MP HD hD2 HM ht har hr1 hr c3 hF
  go_wp2_with (go_at_call 37; refine HC.out.mono ?_; rintro e w3 ⟨rfl, hD3, hF3⟩)
  go_ret
  exact ⟨rfl, hD3, hF2.trans hF3⟩
end Go.Proofs.Ythcliaaoadfegaa.Dk
