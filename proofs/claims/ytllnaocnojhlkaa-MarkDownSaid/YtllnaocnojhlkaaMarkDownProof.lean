/- Proved: whatever numbers and whatever fuse MarkDown is called with, it returns true and leaves them as they were. There is no condition. -/
import Derived.Test.YtllnaocnojhlkaaMs
import Derived.Test.YtllnaocnojhlkaaDo
namespace Go.Proofs.Ytllnaocnojhlkaa.Dk
open Go Go.Proofs.Ytllnaocnojhlkaa Go.RowKit Go.ChangeShapes Go.WideShapes Go.ChangeAt
set_option linter.unusedVariables false
set_option linter.unusedSimpArgs false
set_option maxRecDepth 100000 in
theorem open_u64s {H : Type} {enc : TypeId × Value → H} {W : World} {base : Nat} {v : Value} {d : DataW H} {p : List MemPlace} (hv : Value.okWide Try.prog W .any base 84 v) (h : DataW.Trod enc Try.prog W 0 (fun _ => true) true 84 v d p) :
    ∃ ao c ws, v = .slice ao ws.length c ∧ U64s W (.slice ao ws.length c) ws ∧ ∀ u ∈ ws, u < 18446744073709551616 := by
  obtain ⟨a0, len, cap, rfl⟩ := okWide_slice Try.underlying84 hv
  obtain ⟨fuel, hf⟩ := h
  rcases open_ints Try.underlying84 Try.underlying31 (by kernel_rfl) hf with ⟨hcs, hx⟩ | ⟨a, len', cap', zs, hcs, _, hl, hm, hz, hx, hcell, hwz⟩
  · simp only [Value.cells] at hcs
    injection hcs with hcs
    rw [hcs]
    exact ⟨none, 0, [], rfl, ⟨none, 0, rfl, (fun _ => rfl), (fun a ha => by cases ha)⟩, by simp⟩
  · simp only [Value.cells] at hcs
    injection hcs with hcs
    rw [hcs]
    simp only [if_true] at hz
    have hb : ∀ z ∈ zs.take len', 0 ≤ z ∧ z ≤ 18446744073709551615 := fun z hz' => bounds_u64 (hwz z (List.mem_of_mem_take hz'))
    have hlen : ((zs.take len').map Int.toNat).length = len' := by simp; omega
    refine ⟨some a, cap', (zs.take len').map Int.toNat, (by rw [hlen]), ⟨some a, cap', rfl, (fun h => by cases h), ?_⟩, ?_⟩
    · intro a' ha j u hu
      cases ha
      rw [List.map_map, List.getElem?_map] at hu
      have hjl : j < len' := by
        have h1 := Option.map_eq_some_iff.1 hu
        obtain ⟨z, hz2, _⟩ := h1
        have := (List.getElem?_eq_some_iff.1 hz2).1
        have : (zs.take len').length ≤ len' := List.length_take_le _ _
        omega
      rw [List.getElem?_take, if_pos hjl] at hu
      obtain ⟨z, hz2, rfl⟩ := Option.map_eq_some_iff.1 hu
      rw [hcell j (by omega)]
      have h0 := (hb z (List.mem_iff_getElem?.2 ⟨j, by rw [List.getElem?_take, if_pos hjl]; exact hz2⟩)).1
      have hzz : ((z.toNat : Nat) : Int) = z := Int.toNat_of_nonneg h0
      simp [List.getD, hz2, uv, hzz]
    · intro u hu
      obtain ⟨z, hz2, rfl⟩ := List.mem_map.1 hu
      have := hb z hz2
      omega
theorem markDown_any (F : Int) (ao : Option Addr) (c : Nat) (ws : List Nat) (w : World) (hU : U64s w (.slice ao ws.length c) ws) (hb : ∀ u ∈ ws, u < 18446744073709551616) :
    Calls Try.prog 13 #[.slice ao ws.length c, .int .i64 F] w fun e w' => e = .returned (.bool true) ∧ Below w.heap.size w w' := by
  by_cases h : 6 < ws.length ∨ F < 0 ∨ 3 < F
  · exact markDown_none ao ws.length c F h
  · exact markDown_main hU hb (by omega) F (by omega) (by omega)
end Go.Proofs.Ytllnaocnojhlkaa.Dk
namespace Go.Proofs.Ytllnaocnojhlkaa.markDown
open Go Go.Proofs.Ytllnaocnojhlkaa Go.Proofs.Ytllnaocnojhlkaa.Dk Go.RowKit Go.ChangeShapes Go.WideShapes Go.ChangeAt
set_option linter.unusedVariables false

set_option maxRecDepth 100000 in
theorem lifted (os : Os) (started : os.Started) (H : Type) (enc : TypeId × Value → H) :
    ReturnsInHanded {} Try.checked os 13 .any (Rows.markDownSpec.pre6 enc Try.prog Try.f13 Rows.markDownRow.domain false) (Rows.markDownSpec.post enc Try.prog Try.f13 false true false false) := by
  refine returnsInHanded_of_change (C := Try.checked) Try.ownKnob started (by kernel_rfl) Try.func13
    (ChangeSpec.witness6 (enc := enc) (C := Try.checked) false ⟨#[], #[.slice none 0 0, .int .i64 0], []⟩ 8 (by kernel_rfl) (by kernel_rfl) (by kernel_rfl) (by kernel_rfl)) ?_
  intro W base args ds gs before hval0 hW hcnd _
  have hval : ∀ (j : Nat) t v, Try.f13.params[j]? = some t → args[j]? = some v → Value.okWide Try.prog W .any base t v := hval0
  have hW' := hW
  obtain ⟨p, q, hA, hV, rfl, hfz, hnd⟩ := hW
  obtain ⟨rfl, rfl⟩ := trodVars_none hV
  have hA1 := hA
  have hW1 := hW'
  have hval1 := hval
  rw [Try.params13] at hA hval
  obtain ⟨v0, v1, d0, d1, p0, p1, rfl, rfl, rfl, h0, h1⟩ := trodAll_two hA
  obtain ⟨ao, c, ws, rfl, hU, hb⟩ := open_u64s (hval 0 84 v0 rfl rfl) h0
  obtain ⟨F, rfl, rfl, rfl, wF⟩ := open_int Try.underlying3 (hval 1 3 v1 rfl rfl) h1
  simp only [List.append_nil] at hW1 hA1
  refine (markDown_any F ao c ws W hU hb).mono fun e W' ⟨he, hb⟩ => ?_
  subst he
  exact ⟨_, rfl, law_done (s := Rows.markDownSpec) rfl (by kernel_rfl) (by rw [Try.params13]; simp; first | exact of_decide_eq_true (by kernel_rfl) | exact ⟨of_decide_eq_true (by kernel_rfl), of_decide_eq_true (by kernel_rfl)⟩) rfl hA1 hW1 hb⟩

theorem proved : Rows.MarkDownSaid :=
  OpenClaim.holds_of_wide 13 Try.f13 rfl rfl rfl rfl rfl rfl rfl ⟨rfl, rfl, rfl, rfl, rfl⟩ rfl rfl rfl rfl rfl (by kernel_rfl) Try.func13 (by kernel_rfl)
    (of_decide_eq_true (by kernel_rfl)) (by unfold Func.isWrapper; first | (rw [if_pos (by decide +kernel)]; kernel_rfl) | (rw [if_neg (by decide +kernel)]; exact ⟨rfl, rfl⟩))
    (fun os started H enc _ => lifted os started H enc)
end Go.Proofs.Ytllnaocnojhlkaa.markDown
