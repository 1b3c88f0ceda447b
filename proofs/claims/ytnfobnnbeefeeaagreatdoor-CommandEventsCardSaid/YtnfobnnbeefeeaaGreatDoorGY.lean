/- From a walk to a tied card, for the statements of commands. -/
import Derived.Test.YtnfobnnbeefeeaaGreatDoorGR
import Derived.Test.YtnfobnnbeefeeaaGreatDoorGQ
namespace Go.Proofs.YtnfobnnbeefeeaaGreatDoor.Wi
open Go Go.RowKit Go.ChangeShapes Go.WideShapes Go.ChangeAt
set_option linter.unusedVariables false
theorem cN1 : Tryz.prog.globalNamed "foliot/command.shapes" = some 0 := by kernel_rfl
theorem cT1 : (Tryz.prog.globals[0]?).map (·.type) = some 107 := by kernel_rfl
theorem cShape : Tryz.prog.cellsOf 87 = 3 := by kernel_rfl
theorem cStrK : Tryz.prog.cellsOf 9 = 1 := by kernel_rfl
theorem cIntK : Tryz.prog.cellsOf 3 = 1 := by kernel_rfl
theorem trod_struct3 {H : Type} {enc : TypeId × Value → H} {P : Program} {w : World} {base : Nat} {spare : Nat → Bool} {held : Bool} {t : TypeId} {f0 f1 f2 : Field} {fuel : Nat} {cs : List Value} {x : DataW H × List MemPlace} (ht : P.underlying t = some (.struct #[f0, f1, f2])) (h : DataW.trod enc P w base spare held fuel t cs = some x) :
    ∃ y0 y1 y2 n, fuel = n + 1 ∧ x.1 = .agg [y0.1, y1.1, y2.1] ∧ cs.length = P.cellsOf t ∧ DataW.trod enc P w base spare held n f0.type ((cs.drop f0.offset).take (P.cellsOf f0.type)) = some y0 ∧ DataW.trod enc P w base spare held n f1.type ((cs.drop f1.offset).take (P.cellsOf f1.type)) = some y1 ∧ DataW.trod enc P w base spare held n f2.type ((cs.drop f2.offset).take (P.cellsOf f2.type)) = some y2 := by
  obtain ⟨xs, n, hn, rfl, hl, hlen, hf⟩ := DataW.trod_struct ht h
  match xs, hlen with
  | [y0, y1, y2], _ => exact ⟨y0, y1, y2, n, hn, rfl, hl, by simpa using hf 0 f0 rfl, by simpa using hf 1 f1 rfl, by simpa using hf 2 f2 rfl⟩
def laid4c : List (String × DataW Unit) := [("math/bits.deBruijn32tab", Rows.laid_math_bits_deBruijn32tab), ("math/bits.deBruijn64tab", Rows.laid_math_bits_deBruijn64tab), ("internal/strconv.uint64pow10", Rows.laid_internal_strconv_uint64pow10), ("foliot/command.shapes", Rows.laid_foliot_command_shapes)]
theorem plain4c (W : World) (h : laidMetH Tryz.prog laid4c W) : laidMet Tryz.prog laid4c W := by
  rwa [MakeChecks.laidMetH_plain _ _ _ (by kernel_rfl)] at h
set_option maxRecDepth 100000 in
theorem shapes_of_head {W : World} {rest : List (String × DataW Unit)} (h : laidMet Tryz.prog (("foliot/command.shapes", Rows.laid_foliot_command_shapes) :: rest) W) : ∀ i, i < 6 → ∀ (j : Nat) v, (shN i).cells[j]? = some v → W.cell? ⟨0, i * 3 + j, none⟩ = some v := by
  obtain ⟨ps, ⟨g', t', cs, fuel, p, q, hg', ht', hvar, hd, _, _⟩, _⟩ := h
  obtain rfl := Option.some.inj (cN1.symm.trans hg')
  obtain rfl := Option.some.inj (cT1.symm.trans ht')
  obtain ⟨xs, m, rfl, hx, hlen, hxl, hall⟩ := DataW.trod_array Tryz.underlying107 hd
  have hx1 : xs.map (·.1) = ((List.range 6).map fun i => (.agg [.lit (.string (shN i).nm), .lit (.string (shN i).fl), .lit (.int .i64 (shN i).ev)] : DataW Unit)) := by
    have := congrArg Prod.fst hx
    have h2 : (Rows.laid_foliot_command_shapes : DataW Unit) = .agg ((List.range 6).map fun i => (.agg [.lit (.string (shN i).nm), .lit (.string (shN i).fl), .lit (.int .i64 (shN i).ev)] : DataW Unit)) := by rfl
    rw [h2] at this
    injection this with this
    exact this.symm
  have hw : ∀ j, W.cell? ⟨0, j, none⟩ = cs[j]? := fun j => by
    have := Go.World.var?_cell cN1 hvar j
    simpa using this
  intro i hi j v hj
  have h1 := hall i hi
  rw [cShape] at h1
  have hxi : (xs.map (·.1))[i]? = some (.agg [.lit (.string (shN i).nm), .lit (.string (shN i).fl), .lit (.int .i64 (shN i).ev)]) := by
    rw [hx1, List.getElem?_map, List.getElem?_range hi]; rfl
  rw [List.getElem?_map] at hxi
  cases hxe : xs[i]? with
  | none => rw [hxe] at hxi; cases hxi
  | some y =>
    rw [hxe] at h1 hxi
    simp only [Option.map_some, Option.some.injEq] at hxi
    obtain ⟨y0, y1, y2, m', hm', hy, hlen2, h0, h2, h3⟩ := trod_struct3 Tryz.underlying87 h1
    obtain ⟨s0, e0, rfl, _⟩ := DataW.trod_string Tryz.underlying9 h0
    obtain ⟨s1, e1, rfl, _⟩ := DataW.trod_string Tryz.underlying9 h2
    obtain ⟨n2, e2, rfl, _⟩ := DataW.trod_int Tryz.underlying3 h3
    rw [hy] at hxi
    simp only [DataW.agg.injEq, List.cons.injEq, DataW.lit.injEq, Lit.string.injEq, Lit.int.injEq, and_true, true_and] at hxi
    obtain ⟨q0, q1, q2⟩ := hxi
    rw [show Tryz.prog.cellsOf _ = 1 from cStrK] at e0 e1
    rw [show Tryz.prog.cellsOf _ = 1 from cIntK] at e2
    have f0 := congrArg (·[0]?) e0
    have f1 := congrArg (·[0]?) e1
    have f2 := congrArg (·[0]?) e2
    simp at f0 f1 f2
    have g0 : s0 = str (shN i).nm := by rw [← q0]; simp [str]
    have g1 : s1 = str (shN i).fl := by rw [← q1]; simp [str]
    rw [hw]
    unfold Sh.cells at hj
    match j, hj with
    | 0, hj => cases hj; rw [← g0]; simpa using f0
    | 1, hj => cases hj; rw [← g1]; simpa using f1
    | 2, hj => cases hj; rw [← q2]; simpa using f2
    | j + 3, hj => simp at hj
theorem base4c {W : World} (h : laidMetH Tryz.prog laid4c W) (hs : W.ShapedOpen Tryz.prog) : CB W.heap.size W := by
  have h0 := plain4c W h
  have h1 := laid_tailE (laid_tailE h0)
  have hsh := shapes_of_head (laid_tailE h1)
  have e : Rows.laid_internal_strconv_uint64pow10 = (Lib.tabData .u64 Lib.pow10Tab : DataW Unit) := by rfl
  rw [e] at h1
  have t1 := Lib.tabIs_of_head eN1 eT1 Tryz.underlying194 Tryz.underlying80 eC2 eC1 h1
  have hm : ∃ m, W.cell? ⟨2, 0, none⟩ = some (.int .i64 m) := Go.Proofs.cell_of_shapedOpen_int (zero := #[.int .i64 0]) (t := 3) hs (of_decide_eq_true (by kernel_rfl)) (by kernel_rfl) rfl (by kernel_rfl) (by kernel_rfl) Tryz.underlying3
  refine ⟨⟨Lib.tabBelow_of_tabIs t1, fun w' hb => ?_⟩, ?_, hsh⟩
  · obtain ⟨m, hm⟩ := hm
    have h0 : 2 < W.heap.size := World.block_lt_of_cell? W _ hm
    refine ⟨m, ?_⟩
    rw [← hm]
    exact World.cell?_of_block (hb.block 2 h0)
  · exact World.block_lt_of_cell? W _ (hsh 0 (by omega) 0 _ rfl)
end Go.Proofs.YtnfobnnbeefeeaaGreatDoor.Wi
