/- Proved: whatever commands CommandChecks is called with, it returns true and leaves them as they were. The condition: the package-level tables math/bits.deBruijn32tab, math/bits.deBruijn64tab, internal/strconv.uint64pow10, foliot/command.shapes hold what the program's text lays (the card ties that to the text); what comes in leads not back into itself. -/
import Derived.Test.YtnfobnnbeefeeaaGreatDoorFU
import Derived.Test.YtnfobnnbeefeeaaGreatDoorFR
import Derived.Test.YtnfobnnbeefeeaaGreatDoorGY
namespace Go.Proofs.YtnfobnnbeefeeaaGreatDoor.commandChecks
open Go Go.Proofs.YtnfobnnbeefeeaaGreatDoor Go.Proofs.YtnfobnnbeefeeaaGreatDoor.Wi Go.RowKit Go.ChangeShapes Go.WideShapes Go.ChangeAt
set_option linter.unusedVariables false

set_option maxRecDepth 100000 in
theorem lifted (os : Os) (started : os.Started) (H : Type) (enc : TypeId × Value → H) :
    ReturnsInHanded {} Tryz.checked os 4 .any (fun w args => (Rows.commandChecksSpec.pre enc Tryz.prog Tryz.f4 Rows.commandChecksRow.domain false w args ∧ laidMetH Tryz.prog laid4c w) ∧ sizedMet enc Tryz.prog Tryz.f4 (OpenSpec.ofChange Rows.commandChecksSpec) false w args)
      (Rows.commandChecksSpec.post enc Tryz.prog Tryz.f4 false true false false) := by
  refine handed_and_shapedE (C := Tryz.checked) (X := fun w _ => laidMetH Tryz.prog laid4c w) (fun _ _ _ hh h => h.of_heap hh) Tryz.ownKnob started (by kernel_rfl) Tryz.func4
    (ChangeSpec.witness_shaped (enc := enc) (C := Tryz.checked) (os := os) (X := fun w _ => laidMetH Tryz.prog laid4c w) false (World.laidAll Tryz.prog os laid4c) #[.slice none 0 0] 8 (World.laidAll_os _ _ _)
      (World.shaped_of_ZipB (by kernel_rfl) (by kernel_rfl)) (by kernel_rfl) (by kernel_rfl) (by kernel_rfl)
      (by rw [MakeChecks.laidMetH_plain _ _ _ (by kernel_rfl)]; exact laidMet_laidAll _ (by kernel_rfl) (by kernel_rfl))) ?_
  intro W base args ds gs before hval0 hW hc hwt hL hshape _
  have hval : ∀ (j : Nat) t v, Tryz.f4.params[j]? = some t → args[j]? = some v → Value.okWide Tryz.prog W .any base t v := hval0
  have hW' := hW
  obtain ⟨p, q, hA, hV, rfl, hfz, hnd⟩ := hW
  obtain ⟨rfl, rfl⟩ := trodVars_none hV
  have hA1 := hA
  have hW1 := hW'
  have hwt1 : ∀ (j : Nat) (t : TypeId) (d : DataW H), (Tryz.f4.params.toList ++ Rows.commandChecksSpec.plain.varTypes Tryz.prog)[j]? = some t → (ds ++ [])[j]? = some d → ∀ k ∈ d.weights Tryz.prog t, k ≤ reachBytes := fun j t d ht hd k hk => by
    have h := List.all_eq_true.1 hwt k (DataW.weights_mem_each ht hd k hk)
    simpa using h
  rw [Tryz.params4] at hA hval hwt1
  obtain ⟨v0, d0, rfl, rfl, h0⟩ := trodAll_one hA
  obtain ⟨ao, c, l, rfl, hl⟩ := open_cms (hval 0 39 v0 rfl rfl) h0 (hwt1 0 39 d0 rfl rfl)
  simp only [List.append_nil] at hW1 hA1
  refine (cchecks_any ao c l W hl (base4c hL hshape)).mono fun e W' ⟨he, hb⟩ => ?_
  subst he
  exact ⟨_, rfl, law_done (s := Rows.commandChecksSpec) rfl (by kernel_rfl) (by rw [Tryz.params4]; simp; exact of_decide_eq_true (by kernel_rfl)) rfl hA1 hW1 hb⟩

theorem said : Rows.CommandChecksSaid :=
  OpenClaim.holds_of_wide 4 Tryz.f4 rfl rfl rfl rfl rfl rfl rfl ⟨rfl, rfl, rfl, rfl, rfl⟩ rfl rfl rfl rfl rfl (by kernel_rfl) Tryz.func4 (by kernel_rfl)
    (of_decide_eq_true (by kernel_rfl)) (by unfold Func.isWrapper; first | (rw [if_pos (by decide +kernel)]; kernel_rfl) | (rw [if_neg (by decide +kernel)]; exact ⟨rfl, rfl⟩))
    (fun os started H enc _ => lifted os started H enc)

theorem plain (f : FuncId) (fn : Func) (hf : Tryz.pinned.checked.prog.funcNamed "foliot/foliotlaw10.CommandChecks" = some f) (hfn : Tryz.pinned.checked.prog.funcs[f]? = some fn) :
    false = Tryz.pinned.checked.prog.looks [] ∧ ∀ (j : Nat) t, fn.params[j]? = some t → Tryz.pinned.checked.prog.wantsStandIn t = false := by
  obtain rfl : f = 4 := Option.some.inj ((show Tryz.prog.funcNamed "foliot/foliotlaw10.CommandChecks" = some 4 by kernel_rfl).symm.trans hf) |>.symm
  obtain rfl : fn = Tryz.f4 := (Option.some.inj (Tryz.func4.symm.trans hfn)).symm
  refine ⟨by kernel_rfl, fun j t ht => ?_⟩
  rw [Tryz.params4] at ht
  have hm : t ∈ [39] := by simpa using Array.mem_of_getElem? ht
  have hall : ([39].all fun u => !Tryz.prog.wantsStandIn u) = true := by kernel_rfl
  exact (show Tryz.prog.wantsStandIn t = false by simpa using List.all_eq_true.1 hall t hm)

theorem proved : Rows.CommandChecksCardSaid :=
  Claim7.holds_tied_plain_at .later [] _ _ _ _ said (fun _ h => by cases h) (by kernel_rfl) (fun _ h => by cases h) commandChecks_row_tie rfl ⟨rfl, rfl⟩ (by kernel_rfl) rfl plain (by kernel_rfl)
end Go.Proofs.YtnfobnnbeefeeaaGreatDoor.commandChecks
