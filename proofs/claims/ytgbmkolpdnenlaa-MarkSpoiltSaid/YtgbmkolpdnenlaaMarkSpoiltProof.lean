/- Proved: whatever lists of numbers and whatever sector MarkSpoilt is called with, it returns true and leaves them as they were. There is no condition. -/
import Derived.Test.YtgbmkolpdnenlaaSw
import Derived.Test.YtgbmkolpdnenlaaDo
namespace Go.Proofs.Ytgbmkolpdnenlaa.markSpoilt
open Go Go.Proofs.Ytgbmkolpdnenlaa Go.Proofs.Ytgbmkolpdnenlaa.Dk Go.RowKit Go.ChangeShapes Go.WideShapes Go.ChangeAt
set_option linter.unusedVariables false

set_option maxRecDepth 100000 in
theorem lifted (os : Os) (started : os.Started) (H : Type) (enc : TypeId × Value → H) :
    ReturnsInHanded {} Try.checked os 6 .any (Rows.markSpoiltSpec.pre6 enc Try.prog Try.f6 Rows.markSpoiltRow.domain false) (Rows.markSpoiltSpec.post enc Try.prog Try.f6 false true false false) := by
  refine returnsInHanded_of_change (C := Try.checked) Try.ownKnob started (by kernel_rfl) Try.func6
    (ChangeSpec.witness6 (enc := enc) (C := Try.checked) false ⟨#[], #[.slice none 0 0, .int .i64 0, .int .u8 0], []⟩ 8 (by kernel_rfl) (by kernel_rfl) (by kernel_rfl) (by kernel_rfl)) ?_
  intro W base args ds gs before hval0 hW hcnd _
  have hval : ∀ (j : Nat) t v, Try.f6.params[j]? = some t → args[j]? = some v → Value.okWide Try.prog W .any base t v := hval0
  have hW' := hW
  obtain ⟨p, q, hA, hV, rfl, hfz, hnd⟩ := hW
  obtain ⟨rfl, rfl⟩ := trodVars_none hV
  have hA1 := hA
  have hW1 := hW'
  have hval1 := hval
  rw [Try.params6] at hA hval
  obtain ⟨v0, v1, v2, d0, d1, d2, p0, p1, p2, rfl, rfl, rfl, h0, h1, h2⟩ := trodAll_three hA
  obtain ⟨ao, c, L, rfl, hL, _⟩ := open_numl (hval 0 22 v0 rfl rfl) h0
  obtain ⟨F, rfl, rfl, rfl, wF⟩ := open_int Try.underlying3 (hval 1 3 v1 rfl rfl) h1
  obtain ⟨Z, rfl, rfl, rfl, wZ⟩ := open_int Try.underlying5 (hval 2 5 v2 rfl rfl) h2
  simp only [List.append_nil] at hW1 hA1
  have hz : 0 ≤ Z ∧ Z ≤ 255 := by
    simp [Lit.wf, IntKind.min, IntKind.max, IntKind.signed, IntKind.bits] at wZ
    omega
  obtain ⟨b, rfl⟩ : ∃ b : UInt8, Z = (b.toNat : Int) := ⟨UInt8.ofNat Z.toNat, by rw [UInt8.toNat_ofNat']; omega⟩
  refine (spoilt_any hL F b).mono fun e W' ⟨he, hb⟩ => ?_
  subst he
  exact ⟨_, rfl, law_done (s := Rows.markSpoiltSpec) rfl (by kernel_rfl) (by rw [Try.params6]; simp; first | exact of_decide_eq_true (by kernel_rfl) | exact ⟨of_decide_eq_true (by kernel_rfl), of_decide_eq_true (by kernel_rfl)⟩) rfl hA1 hW1 hb⟩

theorem proved : Rows.MarkSpoiltSaid :=
  OpenClaim.holds_of_wide 6 Try.f6 rfl rfl rfl rfl rfl rfl rfl ⟨rfl, rfl, rfl, rfl, rfl⟩ rfl rfl rfl rfl rfl (by kernel_rfl) Try.func6 (by kernel_rfl)
    (of_decide_eq_true (by kernel_rfl)) (by unfold Func.isWrapper; first | (rw [if_pos (by decide +kernel)]; kernel_rfl) | (rw [if_neg (by decide +kernel)]; exact ⟨rfl, rfl⟩))
    (fun os started H enc _ => lifted os started H enc)
end Go.Proofs.Ytgbmkolpdnenlaa.markSpoilt
