/- From a walk to a tied card, for EventLinks; a sum that came in. -/
import Derived.Test.YtnfobnnbeefeeaaGreatDoorGQ
import Derived.Test.YtnfobnnbeefeeaaGreatDoorIN
import Derived.Test.YtnfobnnbeefeeaaGreatDoorIY
namespace Go.Proofs.YtnfobnnbeefeeaaGreatDoor.Wi
open Go Go.RowKit Go.ChangeShapes Go.WideShapes Go.ChangeAt
set_option linter.unusedVariables false
set_option linter.unusedSimpArgs false
theorem lN1 : Tryz.prog.globalNamed "foliot/sum.start" = some 1 := by kernel_rfl
theorem lN2 : Tryz.prog.globalNamed "foliot/sum.rounds" = some 4 := by kernel_rfl
theorem lT1 : (Tryz.prog.globals[1]?).map (·.type) = some 151 := by kernel_rfl
theorem lT2 : (Tryz.prog.globals[4]?).map (·.type) = some 199 := by kernel_rfl
theorem lA8 : Tryz.prog.cellsOf 151 = 8 := by kernel_rfl
theorem lA64 : Tryz.prog.cellsOf 199 = 64 := by kernel_rfl
theorem lU8 : Tryz.prog.cellsOf 5 = 1 := by kernel_rfl
theorem lU32 : Tryz.prog.cellsOf 81 = 1 := by kernel_rfl
def laid5l : List (String × DataW Unit) := [("math/bits.deBruijn32tab", Rows.laid_math_bits_deBruijn32tab), ("math/bits.deBruijn64tab", Rows.laid_math_bits_deBruijn64tab), ("internal/strconv.uint64pow10", Rows.laid_internal_strconv_uint64pow10), ("foliot/sum.start", Rows.laid_foliot_sum_start), ("foliot/sum.rounds", Rows.laid_foliot_sum_rounds)]
theorem plain5l (W : World) (h : laidMetH Tryz.prog laid5l W) : laidMet Tryz.prog laid5l W := by
  rwa [MakeChecks.laidMetH_plain _ _ _ (by kernel_rfl)] at h
theorem base5l {W : World} (h : laidMetH Tryz.prog laid5l W) (hs : W.ShapedOpen Tryz.prog) : EB W.heap.size W := by
  have h1 := laid_tailE (laid_tailE (plain5l W h))
  have e : Rows.laid_internal_strconv_uint64pow10 = (Lib.tabData .u64 Lib.pow10Tab : DataW Unit) := by rfl
  rw [e] at h1
  have t1 := Lib.tabIs_of_head eN1 eT1 Tryz.underlying194 Tryz.underlying80 eC2 eC1 h1
  have hm : ∃ m, W.cell? ⟨2, 0, none⟩ = some (.int .i64 m) := Go.Proofs.cell_of_shapedOpen_int (zero := #[.int .i64 0]) (t := 3) hs (of_decide_eq_true (by kernel_rfl)) (by kernel_rfl) rfl (by kernel_rfl) (by kernel_rfl) Tryz.underlying3
  refine ⟨Lib.tabBelow_of_tabIs t1, fun w' hb => ?_⟩
  obtain ⟨m, hm⟩ := hm
  have h0 : 2 < W.heap.size := World.block_lt_of_cell? W _ hm
  refine ⟨m, ?_⟩
  rw [← hm]
  exact World.cell?_of_block (hb.block 2 h0)
theorem tables5 {W : World} (h : laidMetH Tryz.prog laid5l W) : ST W := by
  have h' := laid_tailE (laid_tailE (laid_tailE (plain5l W h)))
  have e : ([("foliot/sum.start", Rows.laid_foliot_sum_start), ("foliot/sum.rounds", Rows.laid_foliot_sum_rounds)] : List (String × DataW Unit)) = ("foliot/sum.start", Lib.tabData .u32 (Sm.S0.map fun n : Nat => (n : Int))) :: ("foliot/sum.rounds", Lib.tabData .u32 (Sm.K0.map fun n : Nat => (n : Int))) :: [] := by rfl
  rw [e] at h'
  have t1 := Lib.tabIs_of_head lN1 lT1 Tryz.underlying151 Tryz.underlying81 lU32 lA8 h'
  have t2 := Lib.tabIs_of_head lN2 lT2 Tryz.underlying199 Tryz.underlying81 lU32 lA64 (laid_tailE h')
  refine ⟨rfl, rfl, fun i hi => ?_, fun i hi => ?_⟩
  · have := t1.cell lN1 i (by rw [List.length_map]; exact hi)
    rw [this]
    have hl : i < Sm.S0.length := hi
    simp [List.getD, hl]
  · have := t2.cell lN2 i (by rw [List.length_map]; exact hi)
    rw [this]
    have hl : i < Sm.K0.length := hi
    simp [List.getD, hl]
theorem cells_ofL {H : Type} {enc : TypeId × Value → H} {P : Program} {W : World} {base : Nat} {sp : Nat → Bool} {held : Bool} {e : TypeId} {q : IntKind} (he : P.underlying e = some (.int q)) {m : Nat} {cs : List Value} {c : Nat} : ∀ (L : List Nat) (xs : List (DataW H × List MemPlace)),
    L.mapM (fun i => DataW.trod enc P W base sp held m e ((cs.drop (i * c)).take c)) = some xs → ∀ i ∈ L, ∃ a : Int, (cs.drop (i * c)).take c = [.int q a] ∧ (Lit.int q a).wf = true
  | [], xs, h, i, hi => by cases hi
  | i0 :: L, xs, h, i, hi => by
    rw [List.mapM_cons] at h
    simp only [bind, Option.bind_eq_some_iff, pure, Option.some.injEq] at h
    obtain ⟨y, hy, ys, hys, rfl⟩ := h
    rcases List.mem_cons.1 hi with rfl | hi
    · obtain ⟨a, ea, _, wa⟩ := DataW.trod_int he hy
      exact ⟨a, ea, wa⟩
    · exact cells_ofL he L ys hys i hi
set_option maxRecDepth 100000 in
theorem open_sum {H : Type} {enc : TypeId × Value → H} {W : World} {base : Nat} {v : Value} {d : DataW H} {p : List MemPlace} (hv : Value.okWide Tryz.prog W .any base 23 v) (h : DataW.Trod enc Tryz.prog W 0 (fun _ => true) true 23 v d p) :
    ∃ first : List UInt8, v = .agg (bvs first).toArray ∧ first.length = 32 := by
  have hu := Tryz.underlying23
  have hc : Tryz.prog.cellsOf 23 = 32 := by kernel_rfl
  simp only [Value.okWide, hu] at hv
  obtain ⟨xs, rfl, hsz, _⟩ := hv
  rw [hc] at hsz
  obtain ⟨fuel, hf⟩ := h
  cases fuel with
  | zero => simp [DataW.trod] at hf
  | succ m =>
    rw [DataW.trod_step] at hf
    unfold DataW.trodStep at hf
    simp only [hu, Value.cells] at hf
    rw [if_pos (by rw [hc]; simpa using hsz)] at hf
    simp only [Option.map_eq_some_iff] at hf
    obtain ⟨ys, hy, _⟩ := hf
    have hx := cells_ofL Tryz.underlying5 _ ys hy
    rw [lU8] at hx
    have hx2 : ∀ i, i < 32 → ∃ a : Int, xs.toList[i]? = some (.int .u8 a) ∧ 0 ≤ a ∧ a ≤ 255 := by
      intro i hi
      obtain ⟨a, ha, wa⟩ := hx i (List.mem_range.2 hi)
      have hb := bounds_u8 wa
      refine ⟨a, ?_, hb⟩
      have h1 := congrArg (fun l => l[0]?) ha
      simpa [List.getElem?_take, List.getElem?_drop] using h1
    refine ⟨xs.toList.map fun v => match v with | .int _ a => UInt8.ofNat a.toNat | _ => 0, ?_, by simpa using hsz⟩
    congr 1
    apply Array.toList_inj.1
    apply List.ext_getElem?
    intro i
    by_cases hi : i < 32
    · obtain ⟨a, ha, h0, h1⟩ := hx2 i hi
      rw [ha]
      simp only [bvs, List.toList_toArray, List.getElem?_map, ha, Option.map_some]
      unfold bv
      rw [UInt8.toNat_ofNat']
      congr 2
      omega
    · rw [List.getElem?_eq_none (by simpa [hsz] using hi), List.getElem?_eq_none (by simp [bvs, hsz]; omega)]
end Go.Proofs.YtnfobnnbeefeeaaGreatDoor.Wi
