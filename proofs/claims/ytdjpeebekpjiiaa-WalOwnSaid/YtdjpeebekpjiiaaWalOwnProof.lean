/- Proved: whatever bytes WalOwn is called with, it returns true and leaves them as they were. There is no condition. -/
import Derived.Test.YtdjpeebekpjiiaaJ0S
namespace Go.Proofs.Ytdjpeebekpjiiaa.walOwn
open Go Go.Proofs.Ytdjpeebekpjiiaa Go.Proofs.Ytdjpeebekpjiiaa.Dk Go.RowKit Go.ChangeShapes Go.WideShapes Go.ChangeAt
set_option linter.unusedVariables false
set_option linter.unusedSimpArgs false

set_option maxRecDepth 100000 in
theorem lifted (os : Os) (started : os.Started) (H : Type) (enc : TypeId × Value → H) :
    ReturnsInHanded {} Try.checked os 7 .any (Rows.walOwnSpec.pre6 enc Try.prog Try.f7 Rows.walOwnRow.domain false) (Rows.walOwnSpec.post enc Try.prog Try.f7 false true false false) := by
  refine returnsInHanded_of_change (C := Try.checked) Try.ownKnob started (by kernel_rfl) Try.func7
    (ChangeSpec.witness6 (enc := enc) (C := Try.checked) false ⟨#[], #[.slice none 0 0], []⟩ 8 (by kernel_rfl) (by kernel_rfl) (by kernel_rfl) (by kernel_rfl)) ?_
  intro W base args ds gs before hval0 hW hcnd _
  have hval : ∀ (j : Nat) t v, Try.f7.params[j]? = some t → args[j]? = some v → Value.okWide Try.prog W .any base t v := hval0
  have hW' := hW
  obtain ⟨p, q, hA, hV, rfl, hfz, hnd⟩ := hW
  obtain ⟨rfl, rfl⟩ := trodVars_none hV
  have hA1 := hA
  have hW1 := hW'
  rw [Try.params7] at hA hval
  obtain ⟨v0, d0, rfl, rfl, h0⟩ := trodAll_one hA
  obtain ⟨ao, c, F, rfl, hF, _, _⟩ := open_bytes (hval 0 37 v0 rfl rfl) h0
  simp only [List.append_nil] at hW1 hA1
  refine (own_any hF).mono fun e W' ⟨he, hb⟩ => ?_
  subst he
  exact ⟨_, rfl, law_done (s := Rows.walOwnSpec) rfl (by kernel_rfl) (by rw [Try.params7]; simp; exact of_decide_eq_true (by kernel_rfl)) rfl hA1 hW1 hb⟩

theorem proved : Rows.WalOwnSaid :=
  OpenClaim.holds_of_wide 7 Try.f7 rfl rfl rfl rfl rfl rfl rfl ⟨rfl, rfl, rfl, rfl, rfl⟩ rfl rfl rfl rfl rfl (by kernel_rfl) Try.func7 (by kernel_rfl)
    (of_decide_eq_true (by kernel_rfl)) (by unfold Func.isWrapper; first | (rw [if_pos (by decide +kernel)]; kernel_rfl) | (rw [if_neg (by decide +kernel)]; exact ⟨rfl, rfl⟩))
    (fun os started H enc _ => lifted os started H enc)
end Go.Proofs.Ytdjpeebekpjiiaa.walOwn
