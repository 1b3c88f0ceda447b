/- WalNone: a disk too small for a log, and an empty log. -/
import Derived.Test.YtdjpeebekpjiiaaJ0R
namespace Go.Proofs.Ytdjpeebekpjiiaa.Dk
open Go Go.RowKit
set_option linter.unusedVariables false
set_option linter.unusedSimpArgs false
theorem wsegments_one {w : World} {d g m n : Nat} {x : DS} (h : DiskAt Try.prog w d g m n x) (h1 : x.s.length = 1) : Calls Try.prog 31 #[.pointer (some ⟨d, 0, none⟩)] w fun e w' => e = .returned (.int .i64 0) ∧ w = w' := by
  have SC := sectors_any h
  rw [h1] at SC
  have HSC := Lib.hid SC
  clear h SC
  go_enter Try.func31, Try.ntmps31
  go_wp2_with fail
  refine HSC.out.mono ?_
  rintro e w' ⟨rfl, rfl⟩
  go_wp2_with fail
  go_ret
  exact ⟨rfl, rfl⟩
theorem wopen_few {w : World} {d : Nat} {sg : Int} (h2 : sg < 2) (h : Calls Try.prog 31 #[.pointer (some ⟨d, 0, none⟩)] w fun e w' => e = .returned (.int .i64 sg) ∧ w = w') :
    Calls Try.prog 12 #[.pointer (some ⟨d, 0, none⟩)] w fun e w' => e = .returned (.tuple #[.pointer none, .slice none 0 0, .int .i64 1]) ∧ w = w' := by
  have H := Lib.hid h
  clear h
  go_enter Try.func12, Try.ntmps12
  go_wp2_with fail
  refine H.out.mono ?_
  rintro e w' ⟨rfl, rfl⟩
  go_wp2_with fail
  go_ret3
  exact ⟨rfl, rfl⟩
set_option maxRecDepth 100000 in
set_option maxHeartbeats 8000000 in
theorem none_any (z : Int) (w : World) : Calls Try.prog 6 #[.int .i64 z] w fun e w' => e = .returned (.bool true) ∧ Below w.heap.size w w' := by
  have LG := Lib.hid (logs_any w)
  by_cases h1 : z < 1
  · go_enter Try.func6, Try.ntmps6
    go_wp2_with fail
    refine LG.out.mono ?_
    rintro e w1 ⟨rfl, hb1⟩
    go_wp2_with fail
    go_ret
    exact ⟨rfl, hb1⟩
  · by_cases h2 : 200 < z
    · go_enter Try.func6, Try.ntmps6
      go_wp2_with fail
      refine LG.out.mono ?_
      rintro e w1 ⟨rfl, hb1⟩
      go_wp2_with fail
      go_ret
      exact ⟨rfl, hb1⟩
    · obtain ⟨N, rfl⟩ : ∃ N : Nat, z = (N : Int) := ⟨z.toNat, by omega⟩
      go_enter Try.func6, Try.ntmps6
      go_wp2_with fail
      refine LG.out.mono ?_
      rintro e w1 ⟨rfl, hb1⟩
      have NW := Lib.hid (new_any N (by omega) (by omega) w1)
      have B1 := Lib.hid hb1
      clear hb1 LG
      go_wp2_with fail
      refine NW.out.mono ?_
      rintro e w2 ⟨d, g, m, rfl, hD2, hb2, hd, hg, hm⟩
      have hlen : (DS.new N).s.length = N := by simp [DS.new]
      have B2 := Lib.hid (B1.out.trans (hb2.mono B1.out.size))
      have HB2 := Lib.hid (show w.heap.size ≤ w2.heap.size from B2.out.size)
      by_cases hN : N = 1
      · subst hN
        have OF := Lib.hid (wopen_few (by decide) (wsegments_one hD2 hlen))
        clear hD2 hb2 hlen hd hg hm NW
        go_wp2_with fail
        refine OF.out.mono ?_
        rintro e w3 ⟨rfl, rfl⟩
        go_wp2_with fail
        go_ret
        exact ⟨rfl, B2.out⟩
      · by_cases hf : (N - 2) / 16 < 2
        · have hfi : ((N : Int) - 2) / 16 < 2 := by omega
          have SG := wsegments_any hD2 (by omega)
          rw [hlen] at SG
          have OF := Lib.hid (wopen_few (by omega) SG)
          have h2i : (2 : Int) ≤ (N : Int) := by omega
          clear hD2 hb2 hlen hd hg hm NW SG
          go_wp2_with fail
          refine OF.out.mono ?_
          rintro e w3 ⟨rfl, rfl⟩
          go_wp2_with fail
          go_ret
          exact ⟨rfl, B2.out⟩
        · have hfi : ¬ ((N : Int) - 2) / 16 < 2 := by omega
          have h2i : (2 : Int) ≤ (N : Int) := by omega
          have hz := B1.out.size
          have OP := wopen_any (B := w.heap.size) hD2 (logD_new (N := N) (count := (N - 2) / 16 * 16) (by omega) (by omega)) rfl (by omega) (by omega) (by decide) (fs := []) rfl (fun f hf => by cases hf) (Nat.zero_le _) HB2.out ⟨by omega, by omega, by omega⟩
          have HOP := Lib.hid OP
          clear hD2 hb2 hlen hd hg hm NW OP
          go_wp2_with fail
          refine HOP.out.mono ?_
          rintro e w3 ⟨lg, r, k, S, v, rfl, hL3, hF3, _, _, _, hb3⟩
          obtain ⟨vs3, f1, f2, f3⟩ := hF3
          obtain ⟨a3, c3, hv3⟩ := own_slK f2
          subst hv3
          have B3 := Lib.hid (B2.out.trans (hb3.mono B2.out.size))
          have LF := wleft_any hL3.lgat hL3.ring (by decide) (by decide)
          rw [show ((leftN 0 ([] : List UInt8).length ((N - 2) / 16 * 16) : Nat) : Int) = ((N : Int) - 2) / 16 * 2048 by
            unfold leftN
            simp only [List.length_nil, Nat.min_self, Nat.zero_div, Nat.zero_mul, Nat.sub_zero]
            omega] at LF
          have HLF := Lib.hid LF
          clear f1 f2 f3 hL3 hb3 LF HOP
          go_wp2_with fail
          refine HLF.out.mono ?_
          rintro e w4 ⟨rfl, q4, rfl⟩
          go_wp2_with fail
          go_ret
          refine ⟨?_, below_drewN B3.out q4⟩
          simp
end Go.Proofs.Ytdjpeebekpjiiaa.Dk
