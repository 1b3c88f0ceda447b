/- Events that came in. -/
import Derived.Test.YtnfobnnbeefeeaaGreatDoorGE
import Derived.Test.YtnfobnnbeefeeaaGreatDoorGP
namespace Go.Proofs.YtnfobnnbeefeeaaGreatDoor.Wi
open Go Go.RowKit Go.ChangeShapes Go.WideShapes Go.ChangeAt
set_option linter.unusedVariables false
set_option linter.unusedSimpArgs false
theorem trod_struct8 {H : Type} {enc : TypeId × Value → H} {P : Program} {w : World} {base : Nat} {spare : Nat → Bool} {held : Bool} {t : TypeId} {f0 f1 f2 f3 f4 f5 f6 f7 : Field} {fuel : Nat} {cs : List Value} {x : DataW H × List MemPlace} (ht : P.underlying t = some (.struct #[f0, f1, f2, f3, f4, f5, f6, f7])) (h : DataW.trod enc P w base spare held fuel t cs = some x) :
    ∃ y0 y1 y2 y3 y4 y5 y6 y7 n, fuel = n + 1 ∧ x.1 = .agg [y0.1, y1.1, y2.1, y3.1, y4.1, y5.1, y6.1, y7.1] ∧ cs.length = P.cellsOf t ∧ DataW.trod enc P w base spare held n f0.type ((cs.drop f0.offset).take (P.cellsOf f0.type)) = some y0 ∧ DataW.trod enc P w base spare held n f1.type ((cs.drop f1.offset).take (P.cellsOf f1.type)) = some y1 ∧ DataW.trod enc P w base spare held n f2.type ((cs.drop f2.offset).take (P.cellsOf f2.type)) = some y2 ∧ DataW.trod enc P w base spare held n f3.type ((cs.drop f3.offset).take (P.cellsOf f3.type)) = some y3 ∧ DataW.trod enc P w base spare held n f4.type ((cs.drop f4.offset).take (P.cellsOf f4.type)) = some y4 ∧ DataW.trod enc P w base spare held n f5.type ((cs.drop f5.offset).take (P.cellsOf f5.type)) = some y5 ∧ DataW.trod enc P w base spare held n f6.type ((cs.drop f6.offset).take (P.cellsOf f6.type)) = some y6 ∧ DataW.trod enc P w base spare held n f7.type ((cs.drop f7.offset).take (P.cellsOf f7.type)) = some y7 := by
  obtain ⟨xs, n, hn, rfl, hl, hlen, hf⟩ := DataW.trod_struct ht h
  match xs, hlen with
  | [y0, y1, y2, y3, y4, y5, y6, y7], _ => exact ⟨y0, y1, y2, y3, y4, y5, y6, y7, n, hn, rfl, hl, by simpa using hf 0 f0 rfl, by simpa using hf 1 f1 rfl, by simpa using hf 2 f2 rfl, by simpa using hf 3 f3 rfl, by simpa using hf 4 f4 rfl, by simpa using hf 5 f5 rfl, by simpa using hf 6 f6 rfl, by simpa using hf 7 f7 rfl⟩
theorem bounds_u8 {n : Int} (h : (Lit.int .u8 n).wf = true) : 0 ≤ n ∧ n ≤ 255 := by
  simp [Lit.wf, IntKind.min, IntKind.max, IntKind.signed, IntKind.bits] at h
  omega
theorem cEvent : Tryz.prog.cellsOf 28 = 11 := by kernel_rfl
set_option maxRecDepth 100000 in
theorem open_evcells {H : Type} {enc : TypeId × Value → H} {W : World} : ∀ (fuel : Nat) (cs : List Value) (x : DataW H × List MemPlace), DataW.trod enc Tryz.prog W 0 (fun _ => true) true fuel 28 cs = some x → (∀ k ∈ x.1.weights Tryz.prog 28, k ≤ reachBytes) →
    ∃ v : Ev, cs = v.cells ∧ v.At W.heap.size W := by
  intro fuel cs x h hw
  obtain ⟨y0, y1, y2, y3, y4, y5, y6, y7, n, rfl, hx, hl, h0, h1, h2, h3, h4, h5, h6, h7⟩ := trod_struct8 Tryz.underlying28 h
  have hu : Tryz.prog.underlying 28 = some (.struct _) := Tryz.underlying28
  rw [hx, DataW.weights, hu] at hw
  simp only [List.map_cons, List.map_nil, List.toList_toArray, DataW.weightsEach, List.append_nil, List.mem_append] at hw
  obtain ⟨m0, e0, _, w0⟩ := DataW.trod_int Tryz.underlying3 h0
  obtain ⟨m1, e1, _, w1⟩ := DataW.trod_int Tryz.underlying2 h1
  obtain ⟨m2, e2, _, w2⟩ := DataW.trod_int Tryz.underlying3 h2
  obtain ⟨m3, e3, _, w3⟩ := DataW.trod_int Tryz.underlying2 h3
  obtain ⟨m4, e4, _, w4⟩ := DataW.trod_int Tryz.underlying2 h4
  obtain ⟨s5, e5, rfl, _⟩ := DataW.trod_string Tryz.underlying9 h5
  obtain ⟨s6, e6, rfl, _⟩ := DataW.trod_string Tryz.underlying9 h6
  rw [cEvent] at hl
  dsimp only at e0 e1 e2 e3 e4 e5 e6 h7
  rw [cValI] at e0 e2
  rw [cValI64] at e1 e3 e4
  rw [cValS] at e5 e6
  rw [cValue] at h7
  match cs, hl with
  | [c0, c1, c2, c3, c4, c5, c6, c7, c8, c9, c10], _ =>
    have q0 : c0 = .int .i64 m0 := by simpa using e0
    have q1 : c1 = .int .i64 m1 := by simpa using e1
    have q2 : c2 = .int .i64 m2 := by simpa using e2
    have q3 : c3 = .int .i64 m3 := by simpa using e3
    have q4 : c4 = .int .i64 m4 := by simpa using e4
    have q5 : c5 = .string s5 := by simpa using e5
    have q6 : c6 = .string s6 := by simpa using e6
    have h7' : DataW.trod enc Tryz.prog W 0 (fun _ => true) true n 26 [c7, c8, c9, c10] = some y7 := h7
    subst q0 q1 q2 q3 q4 q5 q6
    obtain ⟨v, hv, hat⟩ := open_cells n _ _ h7' (fun k hk => hw k (.inr (.inr (.inr (.inr (.inr (.inr (.inr hk))))))))
    have hs5 := hw s5.data.toList.length (.inr (.inr (.inr (.inr (.inr (.inl (by rw [DataW.weights]; exact List.mem_singleton.2 rfl)))))))
    have hs6 := hw s6.data.toList.length (.inr (.inr (.inr (.inr (.inr (.inr (.inl (by rw [DataW.weights]; exact List.mem_singleton.2 rfl))))))))
    have hr := reach_le
    refine ⟨⟨m0, m1, m2, m3, m4, s5.data.toList, s6.data.toList, v⟩, ?_, bounds_i64 w0, bounds_i64 w1, bounds_i64 w2, bounds_i64 w3, bounds_i64 w4, by dsimp only; omega, by dsimp only; omega, hat⟩
    unfold Ev.cells
    rw [← hv]
    simp [str]
set_option maxRecDepth 100000 in
theorem open_ev {H : Type} {enc : TypeId × Value → H} {W : World} {base : Nat} {v : Value} {d : DataW H} {p : List MemPlace} (hv : Value.okWide Tryz.prog W .any base 28 v) (h : DataW.Trod enc Tryz.prog W 0 (fun _ => true) true 28 v d p)
    (hw : ∀ k ∈ d.weights Tryz.prog 28, k ≤ reachBytes) : ∃ u : Ev, v = .agg u.cells.toArray ∧ u.At W.heap.size W := by
  obtain ⟨fuel, hf⟩ := h
  obtain ⟨u, hu, hat⟩ := open_evcells fuel _ _ hf hw
  refine ⟨u, ?_, hat⟩
  have h4 := u.cells_len
  cases v with
  | agg cs =>
    have : cs.toList = u.cells := hu
    rw [← this]
  | _ =>
    have h1 : 1 = u.cells.length := congrArg List.length hu
    omega
end Go.Proofs.YtnfobnnbeefeeaaGreatDoor.Wi
