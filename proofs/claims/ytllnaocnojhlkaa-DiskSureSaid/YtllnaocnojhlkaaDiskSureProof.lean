/- Proved: whatever operations DiskSure is called with, it returns true and leaves them as they were. There is no condition. -/
import Derived.Test.YtllnaocnojhlkaaVj
namespace Go.Proofs.Ytllnaocnojhlkaa.diskSure
open Go Go.Proofs.Ytllnaocnojhlkaa Go.Proofs.Ytllnaocnojhlkaa.Dk Go.RowKit Go.ChangeShapes Go.WideShapes Go.ChangeAt
set_option linter.unusedVariables false
set_option linter.constructorNameAsVariable false
set_option linter.unusedSimpArgs false

theorem ops_open {W : World} {v : Value} {L : List OpD} (h : Ops W v L) : ∃ ao c, v = .slice ao L.length c ∧ Ops W (.slice ao L.length c) L := by
  obtain ⟨ao, c, rfl, h1⟩ := h
  exact ⟨ao, c, rfl, ao, c, rfl, h1⟩
set_option maxRecDepth 100000 in
theorem lifted (os : Os) (started : os.Started) (H : Type) (enc : TypeId × Value → H) :
    ReturnsInHanded {} Try.checked os 7 .any (Rows.diskSureSpec.pre6 enc Try.prog Try.f7 Rows.diskSureRow.domain false) (Rows.diskSureSpec.post enc Try.prog Try.f7 false true false false) := by
  refine returnsInHanded_of_change (C := Try.checked) Try.ownKnob started (by kernel_rfl) Try.func7
    (ChangeSpec.witness6 (enc := enc) (C := Try.checked) false ⟨#[], #[.slice none 0 0, .slice none 0 0, .agg #[.int .i64 0, .int .i64 0, .int .i64 0, .int .u8 0, .bool false, .slice none 0 0, .slice none 0 0]], []⟩ 8 (by kernel_rfl) (by kernel_rfl) (by kernel_rfl) (by kernel_rfl)) ?_
  intro W base args ds gs before hval0 hW hcnd _
  have hval : ∀ (j : Nat) t v, Try.f7.params[j]? = some t → args[j]? = some v → Value.okWide Try.prog W .any base t v := hval0
  have hW' := hW
  obtain ⟨p, q, hA, hV, rfl, hfz, hnd⟩ := hW
  obtain ⟨rfl, rfl⟩ := trodVars_none hV
  have hA1 := hA
  have hW1 := hW'
  rw [Try.params7] at hA hval
  obtain ⟨v0, v1, v2, d0, d1, d2, p0, p1, p2, rfl, rfl, rfl, h0, h1, h2⟩ := trodAll_three hA
  obtain ⟨L1, hL1, hl1⟩ := open_ops (hval 0 51 v0 rfl rfl) h0
  obtain ⟨L2, hL2, hl2⟩ := open_ops (hval 1 51 v1 rfl rfl) h1
  obtain ⟨o, rfl, ho⟩ := open_op (hval 2 59 v2 rfl rfl) h2
  obtain ⟨a1, c1, rfl, hO1⟩ := ops_open hL1
  obtain ⟨a2, c2, rfl, hO2⟩ := ops_open hL2
  simp only [List.append_nil] at hW1 hA1
  refine (dsure_any a1 c1 L1 a2 c2 L2 o W hO1 hO2 ho hl1 hl2).mono fun e W' ⟨he, hb⟩ => ?_
  subst he
  exact ⟨_, rfl, law_done (s := Rows.diskSureSpec) rfl (by kernel_rfl) (by rw [Try.params7]; simp; exact of_decide_eq_true (by kernel_rfl)) rfl hA1 hW1 hb⟩

theorem proved : Rows.DiskSureSaid :=
  OpenClaim.holds_of_wide 7 Try.f7 rfl rfl rfl rfl rfl rfl rfl ⟨rfl, rfl, rfl, rfl, rfl⟩ rfl rfl rfl rfl rfl (by kernel_rfl) Try.func7 (by kernel_rfl)
    (of_decide_eq_true (by kernel_rfl)) (by unfold Func.isWrapper; first | (rw [if_pos (by decide +kernel)]; kernel_rfl) | (rw [if_neg (by decide +kernel)]; exact ⟨rfl, rfl⟩))
    (fun os started H enc _ => lifted os started H enc)
end Go.Proofs.Ytllnaocnojhlkaa.diskSure
