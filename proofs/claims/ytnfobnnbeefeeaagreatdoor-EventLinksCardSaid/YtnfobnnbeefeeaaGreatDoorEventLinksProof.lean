/- Proved: whatever sum and event EventLinks is called with, it returns true and leaves them as they were. The condition: the package-level tables math/bits.deBruijn32tab, math/bits.deBruijn64tab, internal/strconv.uint64pow10, foliot/sum.start, foliot/sum.rounds hold what the program's text lays (the card ties that to the text); what comes in leads not back into itself. -/
import Derived.Test.YtnfobnnbeefeeaaGreatDoorIZ
import Derived.Test.YtnfobnnbeefeeaaGreatDoorJL
import Derived.Test.YtnfobnnbeefeeaaGreatDoorGQ
namespace Go.Proofs.YtnfobnnbeefeeaaGreatDoor.eventLinks
open Go Go.Proofs.YtnfobnnbeefeeaaGreatDoor Go.Proofs.YtnfobnnbeefeeaaGreatDoor.Wi Go.RowKit Go.ChangeShapes Go.WideShapes Go.ChangeAt
set_option linter.unusedVariables false

set_option maxRecDepth 100000 in
theorem lifted (os : Os) (started : os.Started) (H : Type) (enc : TypeId × Value → H) :
    ReturnsInHanded {} Tryz.checked os 3 .any (fun w args => (Rows.eventLinksSpec.pre enc Tryz.prog Tryz.f3 Rows.eventLinksRow.domain false w args ∧ laidMetH Tryz.prog laid5l w) ∧ sizedMet enc Tryz.prog Tryz.f3 (OpenSpec.ofChange Rows.eventLinksSpec) false w args)
      (Rows.eventLinksSpec.post enc Tryz.prog Tryz.f3 false true false false) := by
  refine handed_and_shapedE (C := Tryz.checked) (X := fun w _ => laidMetH Tryz.prog laid5l w) (fun _ _ _ hh h => h.of_heap hh) Tryz.ownKnob started (by kernel_rfl) Tryz.func3
    (ChangeSpec.witness_shaped (enc := enc) (C := Tryz.checked) (os := os) (X := fun w _ => laidMetH Tryz.prog laid5l w) false (World.laidAll Tryz.prog os laid5l) #[.agg zl32, .agg #[.int .i64 0, .int .i64 0, .int .i64 0, .int .i64 0, .int .i64 0, .string ⟨#[]⟩, .string ⟨#[]⟩, .int .i64 0, .int .i64 0, .string ⟨#[]⟩, .slice none 0 0]] 8 (World.laidAll_os _ _ _)
      (World.shaped_of_ZipB (by kernel_rfl) (by kernel_rfl)) (by kernel_rfl) (by kernel_rfl) (by kernel_rfl)
      (by rw [MakeChecks.laidMetH_plain _ _ _ (by kernel_rfl)]; exact laidMet_laidAll _ (by kernel_rfl) (by kernel_rfl))) ?_
  intro W base args ds gs before hval0 hW hc hwt hL hshape _
  have hval : ∀ (j : Nat) t v, Tryz.f3.params[j]? = some t → args[j]? = some v → Value.okWide Tryz.prog W .any base t v := hval0
  have hW' := hW
  obtain ⟨p, q, hA, hV, rfl, hfz, hnd⟩ := hW
  obtain ⟨rfl, rfl⟩ := trodVars_none hV
  have hA1 := hA
  have hW1 := hW'
  have hwt1 : ∀ (j : Nat) (t : TypeId) (d : DataW H), (Tryz.f3.params.toList ++ Rows.eventLinksSpec.plain.varTypes Tryz.prog)[j]? = some t → (ds ++ [])[j]? = some d → ∀ k ∈ d.weights Tryz.prog t, k ≤ reachBytes := fun j t d ht hd k hk => by
    have h := List.all_eq_true.1 hwt k (DataW.weights_mem_each ht hd k hk)
    simpa using h
  rw [Tryz.params3] at hA hval hwt1
  obtain ⟨v0, v1, d0, d1, p0, p1, rfl, rfl, rfl, h0, h1⟩ := trodAll_two hA
  obtain ⟨first, rfl, hfl⟩ := open_sum (hval 0 23 v0 rfl rfl) h0
  obtain ⟨u0, rfl, a0⟩ := open_ev (hval 1 28 v1 rfl rfl) h1 (hwt1 1 28 d1 rfl rfl)
  simp only [List.append_nil] at hW1 hA1
  refine (elinks_any first hfl u0 W a0 (base5l hL hshape) (tables5 hL)).mono fun e W' ⟨he, hb⟩ => ?_
  subst he
  exact ⟨_, rfl, law_done (s := Rows.eventLinksSpec) rfl (by kernel_rfl) (by rw [Tryz.params3]; simp; exact of_decide_eq_true (by kernel_rfl)) rfl hA1 hW1 hb⟩

theorem said : Rows.EventLinksSaid :=
  OpenClaim.holds_of_wide 3 Tryz.f3 rfl rfl rfl rfl rfl rfl rfl ⟨rfl, rfl, rfl, rfl, rfl⟩ rfl rfl rfl rfl rfl (by kernel_rfl) Tryz.func3 (by kernel_rfl)
    (of_decide_eq_true (by kernel_rfl)) (by unfold Func.isWrapper; first | (rw [if_pos (by decide +kernel)]; kernel_rfl) | (rw [if_neg (by decide +kernel)]; exact ⟨rfl, rfl⟩))
    (fun os started H enc _ => lifted os started H enc)

theorem plain (f : FuncId) (fn : Func) (hf : Tryz.pinned.checked.prog.funcNamed "foliot/foliotlaw09.EventLinks" = some f) (hfn : Tryz.pinned.checked.prog.funcs[f]? = some fn) :
    false = Tryz.pinned.checked.prog.looks [] ∧ ∀ (j : Nat) t, fn.params[j]? = some t → Tryz.pinned.checked.prog.wantsStandIn t = false := by
  obtain rfl : f = 3 := Option.some.inj ((show Tryz.prog.funcNamed "foliot/foliotlaw09.EventLinks" = some 3 by kernel_rfl).symm.trans hf) |>.symm
  obtain rfl : fn = Tryz.f3 := (Option.some.inj (Tryz.func3.symm.trans hfn)).symm
  refine ⟨by kernel_rfl, fun j t ht => ?_⟩
  rw [Tryz.params3] at ht
  have hm : t ∈ [23, 28] := by simpa using Array.mem_of_getElem? ht
  have hall : ([23, 28].all fun u => !Tryz.prog.wantsStandIn u) = true := by kernel_rfl
  exact (show Tryz.prog.wantsStandIn t = false by simpa using List.all_eq_true.1 hall t hm)

theorem proved : Rows.EventLinksCardSaid :=
  Claim7.holds_tied_plain_at .later [] _ _ _ _ said (fun _ h => by cases h) (by kernel_rfl) (fun _ h => by cases h) eventLinks_row_tie rfl ⟨rfl, rfl⟩ (by kernel_rfl) rfl plain (by kernel_rfl)
end Go.Proofs.YtnfobnnbeefeeaaGreatDoor.eventLinks
