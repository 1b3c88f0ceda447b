/- MarkPuts' other answers. -/
import Derived.Test.YtgbmkolpdnenlaaMu
namespace Go.Proofs.Ytgbmkolpdnenlaa.Dk
open Go Go.RowKit
set_option linter.unusedVariables false
set_option linter.unusedSimpArgs false
structure MbSt (w wr : World) (d g m : Nat) : Prop where
  E : DiskAt Try.prog wr d g m 0 (DS.new 5)
  be : Below w.heap.size w wr
def MbRel (w : World) (d g m N : Nat) (u : Value) (wr : World) : Prop := ∃ i : Nat, u = .int .i64 (i : Int) ∧ i ≤ N ∧ MbSt w wr d g m
set_option maxRecDepth 100000 in
set_option maxHeartbeats 8000000 in
theorem puts_bad {w : World} {ao : Option Addr} {c : Nat} {L : List (List Nat)} (hL : NumL w (.slice ao L.length c) L) (F : Int) (hF : F < 0 ∨ 3 < F) (hwf : wfi F) :
    Calls Try.prog 3 #[.slice ao L.length c, .int .i64 F] w fun e w' => e = .returned (.bool true) ∧ Below w.heap.size w w' := by
  have HL := Lib.hid hL
  have MK := Lib.hid (marks_any w)
  have HF := Lib.hid hF
  have HWI := Lib.hid hwf
  clear hL hF hwf
  by_cases c20 : (20 : Int) < (L.length : Int)
  · go_enter Try.func3, Try.ntmps3
    go_wp2_with fail
    refine MK.out.mono ?_
    rintro e w1 ⟨rfl, hb1⟩
    have HB1 := Lib.hid hb1
    clear hb1 MK
    go_wp2_with fail
    go_ret
    exact ⟨rfl, HB1.out⟩
  go_enter Try.func3, Try.ntmps3
  go_wp2_with fail
  refine MK.out.mono ?_
  rintro e w1 ⟨rfl, hb1⟩
  have HB1 := Lib.hid hb1
  have N := Lib.hid (new_any 5 (by decide) (by decide) w1)
  clear hb1 MK
  go_wp2_with fail
  refine N.out.mono ?_
  rintro e w2 ⟨d, g, m, rfl, hD2, hb2, hd, hg, hm⟩
  have HB2 := Lib.hid (HB1.out.trans (hb2.mono HB1.out.size))
  have HD2 := Lib.hid hD2
  clear hD2 hb2 N hd hg hm HB1
  go_wp2_with fail
  obtain ⟨w3, hw3⟩ : ∃ w3, w3 = w2.alloc (.cells #[.int .u64 0, .slice none 0 0] 31) := ⟨_, rfl⟩
  have b3 : Below w2.heap.size w2 w3 := by rw [hw3]; exact (Below.refl _ _).alloc (Nat.le_refl _) _
  have J0 := Lib.hid (show MbRel w d g m L.length (.int .i64 0) w3 from ⟨0, rfl, Nat.zero_le _, ⟨HD2.out.below b3 (Nat.le_refl _), HB2.out.trans (b3.mono HB2.out.size)⟩⟩)
  rw [← hw3]
  clear hw3 b3 HB2 HD2
  go_wp2_with fail
  go_loopw [29] (fun u wr => MbRel w d g m L.length u wr) (fun u _ => L.length - (intOf u).toNat)
  case atStart => exact J0.out
  case round =>
    obtain ⟨wo, rfl⟩ : ∃ wo : World, wo = wr := ⟨_, rfl⟩
    obtain ⟨i, rfl, hi, ST⟩ := hrel
    have HST := Lib.hid ST
    clear ST J0
    by_cases hil : i < L.length
    · have hii : (i : Int) < (L.length : Int) := by omega
      obtain ⟨ao', c', e', hc⟩ := HL.out
      injection e' with e1 e2 e3
      subst e1 e3
      obtain ⟨a, rfl, aj, cj, hcell, hU, hsm, hlen⟩ := hc i hil
      obtain ⟨ws, hws⟩ : ∃ ws, ws = L.getD i [] := ⟨_, rfl⟩
      rw [← hws] at hcell
      have hcw : wo.cell? (a.add i) = some (.slice aj ws.length cj) := by rw [HST.out.be.cell (World.block_lt_of_cell? w _ hcell)]; exact hcell
      clear hc hcell hU hsm hlen hws e2
      by_cases c20w : (20 : Int) < (ws.length : Int)
      · go_wp2_with fail
        go_ret
        exact ⟨rfl, HST.out.be⟩
      have PF := Lib.hid (put_fail HST.out.E F 1 (by decide) (.slice aj ws.length cj) (fun w' h' => readPair_bad h' F HWI.out (by have h := HF.out; rcases h with h | h; exact .inl h; right; show ((5 : Nat) : Int) - 2 < F; omega)))
      have HS0 := Lib.hid (show (Try.prog.info? 34).map (·.size) = some noM.cells.toArray.size by rw [List.size_toArray]; exact Try.markSize noM_ok)
      go_wp2_with fail
      refine PF.out.mono ?_
      rintro e w4 ⟨rfl, hb4⟩
      obtain ⟨w5, hw5⟩ : ∃ w5, w5 = w4.alloc (.cells noM.cells.toArray 34) := ⟨_, rfl⟩
      have b5 : Below wo.heap.size wo w5 := hb4.trans (by rw [hw5]; exact ((Below.refl _ w4).alloc (Nat.le_refl _) _).mono hb4.size)
      have RL := Lib.hid (show MbRel w d g m L.length (.int .i64 ((i + 1 : Nat) : Int)) w5 from ⟨i + 1, rfl, by omega, ⟨HST.out.E.below b5 (Nat.le_refl _), HST.out.be.trans (b5.mono HST.out.be.size)⟩⟩)
      have HW5 := Lib.hid hw5
      clear hb4 hw5 b5 PF
      by_cases hn : F < 0
      · go_wp2_with (with_reducible show wpList _ _ _ _ _ _; refine wpList_store_new rfl 34 (.tmp 11) (.tmp 41) rfl 34 _ noM.cells.toArray rfl rfl HS0.out rfl noM.cells_one ?_; rw [← HW5.out])
        exact ⟨RL.out, by simp [intOf]; omega⟩
      · have h3 : 3 < F := HF.out.resolve_left hn
        go_wp2_with (with_reducible show wpList _ _ _ _ _ _; refine wpList_store_new rfl 34 (.tmp 11) (.tmp 41) rfl 34 _ noM.cells.toArray rfl rfl HS0.out rfl noM.cells_one ?_; rw [← HW5.out])
        exact ⟨RL.out, by simp [intOf]; omega⟩
    · obtain rfl : i = L.length := by omega
      have PN := Lib.hid (pending_any HST.out.E (by decide))
      go_wp2_with fail
      refine PN.out.mono ?_
      rintro e w5 ⟨v, ss, rfl, hps, hrow, hnil, hb5⟩
      obtain rfl := pend_nil hps calm_new5.S
      obtain rfl := hnil.2 rfl
      have HB5 := Lib.hid (HST.out.be.trans (hb5.mono HST.out.be.size))
      clear hps hrow hnil hb5 PN
      go_wp2_with fail
      go_ret
      exact ⟨rfl, HB5.out⟩
theorem puts_any {w : World} {ao : Option Addr} {c : Nat} {L : List (List Nat)} (hL : NumL w (.slice ao L.length c) L) (F : Int) (hwf : wfi F) :
    Calls Try.prog 3 #[.slice ao L.length c, .int .i64 F] w fun e w' => e = .returned (.bool true) ∧ Below w.heap.size w w' := by
  by_cases h : F < 0 ∨ 3 < F
  · exact puts_bad hL F h hwf
  · obtain ⟨f, rfl⟩ : ∃ f : Nat, F = (f : Int) := ⟨F.toNat, by omega⟩
    exact puts_main hL f (by omega)
end Go.Proofs.Ytgbmkolpdnenlaa.Dk
