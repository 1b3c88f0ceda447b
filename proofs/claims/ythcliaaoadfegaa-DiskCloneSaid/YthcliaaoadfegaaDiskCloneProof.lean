/- Proved: whatever two lists of operations DiskClone is called with, it returns true and leaves them as they were. There is no condition. -/
import Derived.Test.YthcliaaoadfegaaZk
namespace Go.Proofs.Ythcliaaoadfegaa.diskClone
open Go Go.Proofs.Ythcliaaoadfegaa Go.Proofs.Ythcliaaoadfegaa.Dk Go.RowKit Go.ChangeShapes Go.WideShapes Go.ChangeAt
set_option linter.unusedVariables false

set_option maxRecDepth 100000 in
theorem lifted (os : Os) (started : os.Started) (H : Type) (enc : TypeId × Value → H) :
    ReturnsInHanded {} Try.checked os 4 .any (Rows.diskCloneSpec.pre6 enc Try.prog Try.f4 Rows.diskCloneRow.domain false) (Rows.diskCloneSpec.post enc Try.prog Try.f4 false true false false) := by
  refine returnsInHanded_of_change (C := Try.checked) Try.ownKnob started (by kernel_rfl) Try.func4
    (ChangeSpec.witness6 (enc := enc) (C := Try.checked) false ⟨#[], #[.slice none 0 0, .slice none 0 0], []⟩ 8 (by kernel_rfl) (by kernel_rfl) (by kernel_rfl) (by kernel_rfl)) ?_
  intro W base args ds gs before hval0 hW hcnd _
  have hval : ∀ (j : Nat) t v, Try.f4.params[j]? = some t → args[j]? = some v → Value.okWide Try.prog W .any base t v := hval0
  have hW' := hW
  obtain ⟨p, q, hA, hV, rfl, hfz, hnd⟩ := hW
  obtain ⟨rfl, rfl⟩ := trodVars_none hV
  have hA1 := hA
  have hW1 := hW'
  have hval1 := hval
  rw [Try.params4] at hA hval
  obtain ⟨v0, v1, d0, d1, p0, p1, rfl, rfl, rfl, h0, h1⟩ := trodAll_two hA
  obtain ⟨L1, hO1, hlen1⟩ := open_ops (hval 0 22 v0 rfl rfl) h0
  obtain ⟨L2, hO2, hlen2⟩ := open_ops (hval 1 22 v1 rfl rfl) h1
  obtain ⟨a1, c1, rfl, _⟩ := id hO1
  obtain ⟨a2, c2, rfl, _⟩ := id hO2
  simp only [List.append_nil] at hW1 hA1
  refine (clone_law a1 c1 L1 a2 c2 L2 W hO1 hlen1 hO2 hlen2).mono fun e W' ⟨he, hb⟩ => ?_
  subst he
  exact ⟨_, rfl, law_done (s := Rows.diskCloneSpec) rfl (by kernel_rfl) (by rw [Try.params4]; simp; first | exact of_decide_eq_true (by kernel_rfl) | exact ⟨of_decide_eq_true (by kernel_rfl), of_decide_eq_true (by kernel_rfl)⟩) rfl hA1 hW1 hb⟩

theorem proved : Rows.DiskCloneSaid :=
  OpenClaim.holds_of_wide 4 Try.f4 rfl rfl rfl rfl rfl rfl rfl ⟨rfl, rfl, rfl, rfl, rfl⟩ rfl rfl rfl rfl rfl (by kernel_rfl) Try.func4 (by kernel_rfl)
    (of_decide_eq_true (by kernel_rfl)) (by unfold Func.isWrapper; first | (rw [if_pos (by decide +kernel)]; kernel_rfl) | (rw [if_neg (by decide +kernel)]; exact ⟨rfl, rfl⟩))
    (fun os started H enc _ => lifted os started H enc)
end Go.Proofs.Ythcliaaoadfegaa.diskClone
