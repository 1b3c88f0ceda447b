/- Proved: whatever commands and number CommandEvents is called with, it returns true and leaves them as they were. The condition: the package-level tables math/bits.deBruijn32tab, math/bits.deBruijn64tab, internal/strconv.uint64pow10, foliot/command.shapes hold what the program's text lays (the card ties that to the text); what comes in leads not back into itself. -/
import Derived.Test.YtnfobnnbeefeeaaGreatDoorFX
import Derived.Test.YtnfobnnbeefeeaaGreatDoorFR
import Derived.Test.YtnfobnnbeefeeaaGreatDoorGY
namespace Go.Proofs.YtnfobnnbeefeeaaGreatDoor.commandEvents
open Go Go.Proofs.YtnfobnnbeefeeaaGreatDoor Go.Proofs.YtnfobnnbeefeeaaGreatDoor.Wi Go.RowKit Go.ChangeShapes Go.WideShapes Go.ChangeAt
set_option linter.unusedVariables false

set_option maxRecDepth 100000 in
theorem lifted (os : Os) (started : os.Started) (H : Type) (enc : TypeId × Value → H) :
    ReturnsInHanded {} Tryz.checked os 7 .any (fun w args => (Rows.commandEventsSpec.pre enc Tryz.prog Tryz.f7 Rows.commandEventsRow.domain false w args ∧ laidMetH Tryz.prog laid4c w) ∧ sizedMet enc Tryz.prog Tryz.f7 (OpenSpec.ofChange Rows.commandEventsSpec) false w args)
      (Rows.commandEventsSpec.post enc Tryz.prog Tryz.f7 false true false false) := by
  refine handed_and_shapedE (C := Tryz.checked) (X := fun w _ => laidMetH Tryz.prog laid4c w) (fun _ _ _ hh h => h.of_heap hh) Tryz.ownKnob started (by kernel_rfl) Tryz.func7
    (ChangeSpec.witness_shaped (enc := enc) (C := Tryz.checked) (os := os) (X := fun w _ => laidMetH Tryz.prog laid4c w) false (World.laidAll Tryz.prog os laid4c) #[.agg #[.int .i64 0, .int .i64 0, .int .i64 0, .int .i64 0, .string ⟨#[]⟩, .int .i64 0, .int .i64 0, .string ⟨#[]⟩, .slice none 0 0], .agg #[.int .i64 0, .int .i64 0, .int .i64 0, .int .i64 0, .string ⟨#[]⟩, .int .i64 0, .int .i64 0, .string ⟨#[]⟩, .slice none 0 0], .int .i64 0] 8 (World.laidAll_os _ _ _)
      (World.shaped_of_ZipB (by kernel_rfl) (by kernel_rfl)) (by kernel_rfl) (by kernel_rfl) (by kernel_rfl)
      (by rw [MakeChecks.laidMetH_plain _ _ _ (by kernel_rfl)]; exact laidMet_laidAll _ (by kernel_rfl) (by kernel_rfl))) ?_
  intro W base args ds gs before hval0 hW hc hwt hL hshape _
  have hval : ∀ (j : Nat) t v, Tryz.f7.params[j]? = some t → args[j]? = some v → Value.okWide Tryz.prog W .any base t v := hval0
  have hW' := hW
  obtain ⟨p, q, hA, hV, rfl, hfz, hnd⟩ := hW
  obtain ⟨rfl, rfl⟩ := trodVars_none hV
  have hA1 := hA
  have hW1 := hW'
  have hwt1 : ∀ (j : Nat) (t : TypeId) (d : DataW H), (Tryz.f7.params.toList ++ Rows.commandEventsSpec.plain.varTypes Tryz.prog)[j]? = some t → (ds ++ [])[j]? = some d → ∀ k ∈ d.weights Tryz.prog t, k ≤ reachBytes := fun j t d ht hd k hk => by
    have h := List.all_eq_true.1 hwt k (DataW.weights_mem_each ht hd k hk)
    simpa using h
  rw [Tryz.params7] at hA hval hwt1
  obtain ⟨v0, v1, v2, d0, d1, d2, p0, p1, p2, rfl, rfl, rfl, h0, h1, h2⟩ := trodAll_three hA
  obtain ⟨u0, rfl, a0⟩ := open_cm (hval 0 42 v0 rfl rfl) h0 (hwt1 0 42 d0 rfl rfl)
  obtain ⟨u1, rfl, a1⟩ := open_cm (hval 1 42 v1 rfl rfl) h1 (hwt1 1 42 d1 rfl rfl)
  obtain ⟨z, rfl, rfl, rfl, w1⟩ := open_int Tryz.underlying3 (hval 2 3 v2 rfl rfl) h2
  simp only [List.append_nil] at hW1 hA1
  refine (cevents_any u0 u1 z (bounds_i64 w1) W a0 a1 (base4c hL hshape)).mono fun e W' ⟨he, hb⟩ => ?_
  subst he
  exact ⟨_, rfl, law_done (s := Rows.commandEventsSpec) rfl (by kernel_rfl) (by rw [Tryz.params7]; simp; exact of_decide_eq_true (by kernel_rfl)) rfl hA1 hW1 hb⟩

theorem said : Rows.CommandEventsSaid :=
  OpenClaim.holds_of_wide 7 Tryz.f7 rfl rfl rfl rfl rfl rfl rfl ⟨rfl, rfl, rfl, rfl, rfl⟩ rfl rfl rfl rfl rfl (by kernel_rfl) Tryz.func7 (by kernel_rfl)
    (of_decide_eq_true (by kernel_rfl)) (by unfold Func.isWrapper; first | (rw [if_pos (by decide +kernel)]; kernel_rfl) | (rw [if_neg (by decide +kernel)]; exact ⟨rfl, rfl⟩))
    (fun os started H enc _ => lifted os started H enc)

theorem plain (f : FuncId) (fn : Func) (hf : Tryz.pinned.checked.prog.funcNamed "foliot/foliotlaw10.CommandEvents" = some f) (hfn : Tryz.pinned.checked.prog.funcs[f]? = some fn) :
    false = Tryz.pinned.checked.prog.looks [] ∧ ∀ (j : Nat) t, fn.params[j]? = some t → Tryz.pinned.checked.prog.wantsStandIn t = false := by
  obtain rfl : f = 7 := Option.some.inj ((show Tryz.prog.funcNamed "foliot/foliotlaw10.CommandEvents" = some 7 by kernel_rfl).symm.trans hf) |>.symm
  obtain rfl : fn = Tryz.f7 := (Option.some.inj (Tryz.func7.symm.trans hfn)).symm
  refine ⟨by kernel_rfl, fun j t ht => ?_⟩
  rw [Tryz.params7] at ht
  have hm : t ∈ [42, 42, 3] := by simpa using Array.mem_of_getElem? ht
  have hall : ([42, 42, 3].all fun u => !Tryz.prog.wantsStandIn u) = true := by kernel_rfl
  exact (show Tryz.prog.wantsStandIn t = false by simpa using List.all_eq_true.1 hall t hm)

theorem proved : Rows.CommandEventsCardSaid :=
  Claim7.holds_tied_plain_at .later [] _ _ _ _ said (fun _ h => by cases h) (by kernel_rfl) (fun _ h => by cases h) commandEvents_row_tie rfl ⟨rfl, rfl⟩ (by kernel_rfl) rfl plain (by kernel_rfl)
end Go.Proofs.YtnfobnnbeefeeaaGreatDoor.commandEvents
