/- Proved: whatever two sectors and places MarkReads is called with, it returns true and leaves them as they were. There is no condition. -/
import Derived.Test.YtgbmkolpdnenlaaRw3
import Derived.Test.YtgbmkolpdnenlaaDo
namespace Go.Proofs.Ytgbmkolpdnenlaa.markReads
open Go Go.Proofs.Ytgbmkolpdnenlaa Go.Proofs.Ytgbmkolpdnenlaa.Dk Go.RowKit Go.ChangeShapes Go.WideShapes Go.ChangeAt
set_option linter.unusedVariables false
set_option linter.constructorNameAsVariable false
set_option linter.unusedSimpArgs false

theorem cells_of {H : Type} {enc : TypeId × Value → H} {P : Program} {W : World} {base : Nat} {sp : Nat → Bool} {held : Bool} {e : TypeId} {q : IntKind} (he : P.underlying e = some (.int q)) {m : Nat} {cs : List Value} {c : Nat} : ∀ (L : List Nat) (xs : List (DataW H × List MemPlace)),
    L.mapM (fun i => DataW.trod enc P W base sp held m e ((cs.drop (i * c)).take c)) = some xs → ∀ i ∈ L, ∃ a : Int, (cs.drop (i * c)).take c = [.int q a] ∧ (Lit.int q a).wf = true
  | [], xs, h, i, hi => by cases hi
  | i0 :: L, xs, h, i, hi => by
    rw [List.mapM_cons] at h
    simp only [bind, Option.bind_eq_some_iff, pure, Option.some.injEq] at h
    obtain ⟨y, hy, ys, hys, rfl⟩ := h
    rcases List.mem_cons.1 hi with rfl | hi
    · obtain ⟨a, ea, _, wa⟩ := DataW.trod_int he hy
      exact ⟨a, ea, wa⟩
    · exact cells_of he L ys hys i hi
set_option maxRecDepth 100000 in
theorem cInt : Try.prog.cellsOf 3 = 1 := by kernel_rfl
theorem pair_of {xs : Array Value} {a b : Value} (hsz : xs.size = 2) (e0 : xs.toList[0]? = some a) (e1 : xs.toList[1]? = some b) : xs = #[a, b] := by
  obtain ⟨l⟩ := xs
  match l, hsz, e0, e1 with
  | [x0, x1], _, e0, e1 =>
    simp at e0 e1
    rw [e0, e1]
set_option maxRecDepth 100000 in
/-- Two numbers that came in. -/
theorem open_pair {H : Type} {enc : TypeId × Value → H} {W : World} {base : Nat} {v : Value} {d : DataW H} {p : List MemPlace} (hv : Value.okWide Try.prog W .any base 45 v) (h : DataW.Trod enc Try.prog W 0 (fun _ => true) true 45 v d p) :
    ∃ a0 a1 : Int, v = .agg #[.int .i64 a0, .int .i64 a1] ∧ (Lit.int .i64 a0).wf = true ∧ (Lit.int .i64 a1).wf = true := by
  have hu := Try.underlying45
  have hc : Try.prog.cellsOf 45 = 2 := by kernel_rfl
  simp only [Value.okWide, hu] at hv
  obtain ⟨xs, rfl, hsz, _⟩ := hv
  rw [hc] at hsz
  obtain ⟨fuel, hf⟩ := h
  cases fuel with
  | zero => simp [DataW.trod] at hf
  | succ m =>
    rw [DataW.trod_step] at hf
    unfold DataW.trodStep at hf
    simp only [hu, Value.cells] at hf
    rw [if_pos (by rw [hc]; simpa using hsz)] at hf
    simp only [Option.map_eq_some_iff] at hf
    obtain ⟨ys, hy, _⟩ := hf
    have hx := cells_of Try.underlying3 _ ys hy
    rw [cInt] at hx
    have hx2 : ∀ i, i < 2 → ∃ a : Int, xs.toList[i]? = some (.int .i64 a) ∧ (Lit.int .i64 a).wf = true := by
      intro i hi
      obtain ⟨a, ha, wa⟩ := hx i (List.mem_range.2 hi)
      refine ⟨a, ?_, wa⟩
      have h1 := congrArg (fun l => l[0]?) ha
      simpa [List.getElem?_take, List.getElem?_drop] using h1
    obtain ⟨a0, e0, w0⟩ := hx2 0 (by decide)
    obtain ⟨a1, e1, w1⟩ := hx2 1 (by decide)
    refine ⟨a0, a1, ?_, w0, w1⟩
    exact congrArg Value.agg (pair_of hsz e0 e1)
set_option maxRecDepth 100000 in
theorem lifted (os : Os) (started : os.Started) (H : Type) (enc : TypeId × Value → H) :
    ReturnsInHanded {} Try.checked os 4 .any (Rows.markReadsSpec.pre6 enc Try.prog Try.f4 Rows.markReadsRow.domain false) (Rows.markReadsSpec.post enc Try.prog Try.f4 false true false false) := by
  refine returnsInHanded_of_change (C := Try.checked) Try.ownKnob started (by kernel_rfl) Try.func4
    (ChangeSpec.witness6 (enc := enc) (C := Try.checked) false ⟨#[], #[.slice none 0 0, .slice none 0 0, .agg #[.int .i64 0, .int .i64 0]], []⟩ 8 (by kernel_rfl) (by kernel_rfl) (by kernel_rfl) (by kernel_rfl)) ?_
  intro W base args ds gs before hval0 hW hcnd _
  have hval : ∀ (j : Nat) t v, Try.f4.params[j]? = some t → args[j]? = some v → Value.okWide Try.prog W .any base t v := hval0
  have hW' := hW
  obtain ⟨p, q, hA, hV, rfl, hfz, hnd⟩ := hW
  obtain ⟨rfl, rfl⟩ := trodVars_none hV
  have hA1 := hA
  have hW1 := hW'
  rw [Try.params4] at hA hval
  obtain ⟨v0, v1, v2, d0, d1, d2, p0, p1, p2, rfl, rfl, rfl, h0, h1, h2⟩ := trodAll_three hA
  obtain ⟨a1, l1, F, rfl, hF, _, _⟩ := open_bytes (hval 0 44 v0 rfl rfl) h0
  obtain ⟨a2, l2, G, rfl, hG, _, _⟩ := open_bytes (hval 1 44 v1 rfl rfl) h1
  obtain ⟨c0, c1, rfl, wa, wb⟩ := open_pair (hval 2 45 v2 rfl rfl) h2
  simp only [List.append_nil] at hW1 hA1
  refine (reads_any c0 c1 hF hG).mono fun e W' ⟨he, hb⟩ => ?_
  subst he
  exact ⟨_, rfl, law_done (s := Rows.markReadsSpec) rfl (by kernel_rfl) (by rw [Try.params4]; simp; exact of_decide_eq_true (by kernel_rfl)) rfl hA1 hW1 hb⟩

theorem proved : Rows.MarkReadsSaid :=
  OpenClaim.holds_of_wide 4 Try.f4 rfl rfl rfl rfl rfl rfl rfl ⟨rfl, rfl, rfl, rfl, rfl⟩ rfl rfl rfl rfl rfl (by kernel_rfl) Try.func4 (by kernel_rfl)
    (of_decide_eq_true (by kernel_rfl)) (by unfold Func.isWrapper; first | (rw [if_pos (by decide +kernel)]; kernel_rfl) | (rw [if_neg (by decide +kernel)]; exact ⟨rfl, rfl⟩))
    (fun os started H enc _ => lifted os started H enc)
end Go.Proofs.Ytgbmkolpdnenlaa.markReads
