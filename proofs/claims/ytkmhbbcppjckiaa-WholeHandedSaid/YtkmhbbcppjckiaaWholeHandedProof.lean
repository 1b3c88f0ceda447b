/- Proved: whatever WholeHanded is called with, it returns true and leaves it as it was. There is no condition. -/
import Derived.Test.YtkmhbbcppjckiaaMYD
import Derived.Test.YtkmhbbcppjckiaaNM
namespace Go.Proofs.Ytkmhbbcppjckiaa.wholeHanded
open Go Go.Proofs.Ytkmhbbcppjckiaa Go.Proofs.Ytkmhbbcppjckiaa.Ma Go.Proofs.Ytkmhbbcppjckiaa.Qu Go.RowKit Go.ChangeShapes Go.WideShapes Go.ChangeAt
set_option linter.unusedVariables false
set_option linter.unusedSimpArgs false

set_option maxRecDepth 100000 in
theorem lifted (os : Os) (started : os.Started) (H : Type) (enc : TypeId × Value → H) :
    ReturnsInHanded {} Try.checked os 11 .any (Rows.wholeHandedSpec.pre6 enc Try.prog Try.f11 Rows.wholeHandedRow.domain false) (Rows.wholeHandedSpec.post enc Try.prog Try.f11 false true false false) := by
  refine returnsInHanded_of_change (C := Try.checked) Try.ownKnob started (by kernel_rfl) Try.func11
    (ChangeSpec.witness6 (enc := enc) (C := Try.checked) false ⟨#[], #[.slice none 0 0, .slice none 0 0], []⟩ 8 (by kernel_rfl) (by kernel_rfl) (by kernel_rfl) (by kernel_rfl)) ?_
  intro W base args ds gs before hval0 hW hcnd _
  have hval : ∀ (j : Nat) t v, Try.f11.params[j]? = some t → args[j]? = some v → Value.okWide Try.prog W .any base t v := hval0
  have hW' := hW
  obtain ⟨p, q, hA, hV, rfl, hfz, hnd⟩ := hW
  obtain ⟨rfl, rfl⟩ := trodVars_none hV
  have hA1 := hA
  have hW1 := hW'
  have hval1 := hval
  rw [Try.params11] at hA hval
  obtain ⟨v0, v1, d0, d1, p0, p1, rfl, rfl, rfl, h0, h1⟩ := trodAll_two hA
  obtain ⟨ao0, c0, zs0, rfl, k0, m0⟩ := open_zs Try.underlying56 Try.underlying3 (by kernel_rfl) (hval 0 56 v0 rfl rfl) h0
  obtain ⟨ao1, c1, L1, rfl, k1, m1⟩ := open_i3s (hval 1 101 v1 rfl rfl) h1
  simp only [List.append_nil] at hW1 hA1
  refine (handed_any ao0 c0 zs0 ao1 c1 L1 W k0 m0 k1 m1).mono fun e W' ⟨he, hb⟩ => ?_
  subst he
  exact ⟨_, rfl, law_done (s := Rows.wholeHandedSpec) rfl (by kernel_rfl) (by rw [Try.params11]; simp; first | exact of_decide_eq_true (by kernel_rfl) | exact ⟨of_decide_eq_true (by kernel_rfl), of_decide_eq_true (by kernel_rfl)⟩) rfl hA1 hW1 hb⟩

theorem proved : Rows.WholeHandedSaid :=
  OpenClaim.holds_of_wide 11 Try.f11 rfl rfl rfl rfl rfl rfl rfl ⟨rfl, rfl, rfl, rfl, rfl⟩ rfl rfl rfl rfl rfl (by kernel_rfl) Try.func11 (by kernel_rfl)
    (of_decide_eq_true (by kernel_rfl)) (by unfold Func.isWrapper; first | (rw [if_pos (by decide +kernel)]; kernel_rfl) | (rw [if_neg (by decide +kernel)]; exact ⟨rfl, rfl⟩))
    (fun os started H enc _ => lifted os started H enc)
end Go.Proofs.Ytkmhbbcppjckiaa.wholeHanded
