/- Proved: whatever number and whatever operations DiskFuse is called with, it returns true and leaves them as they were. There is no condition. -/
import Derived.Test.YtecjhhljjddcmaaFu
namespace Go.Proofs.Ytecjhhljjddcmaa.Dk
open Go Go.RowKit
set_option linter.unusedVariables false
set_option linter.unusedSimpArgs false

set_option maxRecDepth 100000 in
theorem fuse_none (F : Int) (ao : Option Addr) (c : Nat) (L : List OpD) (w : World) (hO : Ops w (.slice ao L.length c) L) (hlen : L.length ≤ 9223372036854775807) (h : fitsB L = false ∨ F < 0 ∨ 40 < F) :
    Calls Try.prog 7 #[.int .i64 F, .slice ao L.length c] w fun e w' => e = .returned (.bool true) ∧ Below w.heap.size w w' := by
  have FT := Lib.hid (fun W h => fits_any ao c L W h hlen)
  have HO := Lib.hid hO
  have HH := Lib.hid h
  clear hO h
  cases hfit : fitsB L with
  | false =>
    rw [hfit] at FT
    clear hfit
    go_enter Try.func7, Try.ntmps7
    go_wp2_with fail
    refine (works_any w).mono ?_
    rintro e w0 ⟨rfl, hB0⟩
    have HB0 := Lib.hid hB0
    clear hB0
    go_wp2_with fail
    refine (FT.out w0 (HO.out.below HB0.out (Nat.le_refl _))).mono ?_
    rintro e w1 ⟨rfl, hB1⟩
    have HB1 := Lib.hid (HB0.out.trans (hB1.mono HB0.out.size))
    clear hB1 FT HB0
    go_wp2_with fail
    go_ret
    exact ⟨rfl, HB1.out⟩
  | true =>
    rw [hfit] at FT
    by_cases f1 : F < 0
    · clear hfit
      go_enter Try.func7, Try.ntmps7
      go_wp2_with fail
      refine (works_any w).mono ?_
      rintro e w0 ⟨rfl, hB0⟩
      have HB0 := Lib.hid hB0
      clear hB0
      go_wp2_with fail
      refine (FT.out w0 (HO.out.below HB0.out (Nat.le_refl _))).mono ?_
      rintro e w1 ⟨rfl, hB1⟩
      have HB1 := Lib.hid (HB0.out.trans (hB1.mono HB0.out.size))
      clear hB1 FT HB0
      go_wp2_with fail
      go_ret
      exact ⟨rfl, HB1.out⟩
    · have f2 : 40 < F := by
        have := HH.out
        rw [hfit] at this
        rcases this with h | h | h
        · cases h
        · omega
        · exact h
      clear hfit
      go_enter Try.func7, Try.ntmps7
      go_wp2_with fail
      refine (works_any w).mono ?_
      rintro e w0 ⟨rfl, hB0⟩
      have HB0 := Lib.hid hB0
      clear hB0
      go_wp2_with fail
      refine (FT.out w0 (HO.out.below HB0.out (Nat.le_refl _))).mono ?_
      rintro e w1 ⟨rfl, hB1⟩
      have HB1 := Lib.hid (HB0.out.trans (hB1.mono HB0.out.size))
      clear hB1 FT HB0
      go_wp2_with fail
      go_ret
      exact ⟨rfl, HB1.out⟩
theorem fuse_all (F : Int) (ao : Option Addr) (c : Nat) (L : List OpD) (w : World) (hO : Ops w (.slice ao L.length c) L) (hlen : L.length ≤ 9223372036854775807) :
    Calls Try.prog 7 #[.int .i64 F, .slice ao L.length c] w fun e w' => e = .returned (.bool true) ∧ Below w.heap.size w w' := by
  cases hfit : fitsB L with
  | false => exact fuse_none F ao c L w hO hlen (.inl hfit)
  | true =>
    by_cases h1 : F < 0
    · exact fuse_none F ao c L w hO hlen (.inr (.inl h1))
    · by_cases h2 : 40 < F
      · exact fuse_none F ao c L w hO hlen (.inr (.inr h2))
      · exact fuse_law F (by omega) (by omega) ao c L w hO hlen hfit
end Go.Proofs.Ytecjhhljjddcmaa.Dk
namespace Go.Proofs.Ytecjhhljjddcmaa.diskFuse
open Go Go.Proofs.Ytecjhhljjddcmaa Go.Proofs.Ytecjhhljjddcmaa.Dk Go.RowKit Go.ChangeShapes Go.WideShapes Go.ChangeAt
set_option linter.unusedVariables false

set_option maxRecDepth 100000 in
theorem lifted (os : Os) (started : os.Started) (H : Type) (enc : TypeId × Value → H) :
    ReturnsInHanded {} Try.checked os 7 .any (Rows.diskFuseSpec.pre6 enc Try.prog Try.f7 Rows.diskFuseRow.domain false) (Rows.diskFuseSpec.post enc Try.prog Try.f7 false true false false) := by
  refine returnsInHanded_of_change (C := Try.checked) Try.ownKnob started (by kernel_rfl) Try.func7
    (ChangeSpec.witness6 (enc := enc) (C := Try.checked) false ⟨#[], #[.int .i64 0, .slice none 0 0], []⟩ 8 (by kernel_rfl) (by kernel_rfl) (by kernel_rfl) (by kernel_rfl)) ?_
  intro W base args ds gs before hval0 hW hcnd _
  have hval : ∀ (j : Nat) t v, Try.f7.params[j]? = some t → args[j]? = some v → Value.okWide Try.prog W .any base t v := hval0
  have hW' := hW
  obtain ⟨p, q, hA, hV, rfl, hfz, hnd⟩ := hW
  obtain ⟨rfl, rfl⟩ := trodVars_none hV
  have hA1 := hA
  have hW1 := hW'
  have hval1 := hval
  rw [Try.params7] at hA hval
  obtain ⟨v0, v1, d0, d1, p0, p1, rfl, rfl, rfl, h0, h1⟩ := trodAll_two hA
  obtain ⟨F, rfl, rfl, rfl, wF⟩ := open_int Try.underlying3 (hval 0 3 v0 rfl rfl) h0
  obtain ⟨L, hO, hlen⟩ := open_ops (hval 1 65 v1 rfl rfl) h1
  obtain ⟨ao, c, rfl, _⟩ := id hO
  simp only [List.append_nil] at hW1 hA1
  refine (fuse_all F ao c L W hO hlen).mono fun e W' ⟨he, hb⟩ => ?_
  subst he
  exact ⟨_, rfl, law_done (s := Rows.diskFuseSpec) rfl (by kernel_rfl) (by rw [Try.params7]; simp; first | exact of_decide_eq_true (by kernel_rfl) | exact ⟨of_decide_eq_true (by kernel_rfl), of_decide_eq_true (by kernel_rfl)⟩) rfl hA1 hW1 hb⟩

theorem proved : Rows.DiskFuseSaid :=
  OpenClaim.holds_of_wide 7 Try.f7 rfl rfl rfl rfl rfl rfl rfl ⟨rfl, rfl, rfl, rfl, rfl⟩ rfl rfl rfl rfl rfl (by kernel_rfl) Try.func7 (by kernel_rfl)
    (of_decide_eq_true (by kernel_rfl)) (by unfold Func.isWrapper; first | (rw [if_pos (by decide +kernel)]; kernel_rfl) | (rw [if_neg (by decide +kernel)]; exact ⟨rfl, rfl⟩))
    (fun os started H enc _ => lifted os started H enc)
end Go.Proofs.Ytecjhhljjddcmaa.diskFuse
