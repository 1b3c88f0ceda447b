/- From a walk to a tied card, for the statements of values. -/
import Derived.Test.YthfjahagmfgfeaaGreatDoorGE
import Derived.Test.YthfjahagmfgfeaaGreatDoorG2
import Derived.Test.YthfjahagmfgfeaaGreatDoorTie
import Derived.Test.YthfjahagmfgfeaaGreatDoorCards
import Derived.ProofKit
import Derived.OpenShut
import Derived.Carry
import Derived.LaidMore
import Derived.Lay
import Derived.SevenTiedAt
import Derived.Stop.Joined
import Derived.Lib.LaidTab
namespace Go.Proofs.YthfjahagmfgfeaaGreatDoor.Wi
open Go Go.RowKit Go.ChangeShapes Go.WideShapes Go.ChangeAt
set_option linter.unusedVariables false
def laid5 : List (String × DataW Unit) := [("math/bits.deBruijn32tab", Rows.laid_math_bits_deBruijn32tab), ("math/bits.deBruijn64tab", Rows.laid_math_bits_deBruijn64tab), ("internal/strconv.uint64pow10", Rows.laid_internal_strconv_uint64pow10), ("strconv.ErrRange", Rows.laid_strconv_ErrRange), ("strconv.ErrSyntax", Rows.laid_strconv_ErrSyntax)]
theorem plain5 (W : World) (h : laidMetH Tryz.prog laid5 W) : laidMet Tryz.prog laid5 W := by
  rwa [MakeChecks.laidMetH_plain _ _ _ (by kernel_rfl)] at h
theorem laid_tailV {P : Program} {W : World} {x : String × DataW Unit} {l : List (String × DataW Unit)} (h : laidMet P (x :: l) W) : laidMet P l W := by
  obtain ⟨ps, h1, h2, h3⟩ := h
  obtain ⟨g, t, cs, fuel, p, q, hg, ht, hv, hd, hq, rfl⟩ := h1
  exact ⟨q, hq, (List.nodup_append.1 h2).2.1, fun b off hb => h3 b off (List.mem_append.2 (Or.inr hb))⟩
theorem vN1 : Tryz.prog.globalNamed "internal/strconv.uint64pow10" = some 3 := by kernel_rfl
theorem vT1 : (Tryz.prog.globals[3]?).map (·.type) = some 175 := by kernel_rfl
theorem vC1 : Tryz.prog.cellsOf 175 = 20 := by kernel_rfl
theorem vC2 : Tryz.prog.cellsOf 77 = 1 := by kernel_rfl
theorem vN2 : Tryz.prog.globalNamed "strconv.ErrRange" = some 5 := by kernel_rfl
theorem vT2 : (Tryz.prog.globals[5]?).map (·.type) = some 140 := by kernel_rfl
theorem vN3 : Tryz.prog.globalNamed "strconv.ErrSyntax" = some 4 := by kernel_rfl
theorem vT3 : (Tryz.prog.globals[4]?).map (·.type) = some 140 := by kernel_rfl
theorem err_of_head {P : Program} {W : World} {name nm : String} {d : DataW Unit} {rest : List (String × DataW Unit)} {g : Nat} {t : TypeId} {ms : Array (String × TypeId)} (hg : P.globalNamed name = some g) (hty : (P.globals[g]?).map (·.type) = some t)
    (ht : P.underlying t = some (.interface ms)) (h : laidMet P ((name, .iface nm d) :: rest) W) : ∀ w', Below W.heap.size W w' → ∃ tp p, w'.var? P name = some #[.iface tp p] := by
  obtain ⟨ps, ⟨g', t', cs, fuel, p, q, hg', ht', hvar, hd, _, _⟩, _⟩ := h
  obtain rfl := Option.some.inj (hg.symm.trans hg')
  obtain rfl := Option.some.inj (hty.symm.trans ht')
  obtain ⟨_, u, v, hcs, _, _⟩ := iface_of_trod ht hd
  intro w' hb
  refine ⟨u, v, ?_⟩
  have hgB : g < W.heap.size := by
    unfold World.var? at hvar
    rw [hg] at hvar
    simp only [Option.bind_some] at hvar
    split at hvar
    · rename_i heq
      exact (Array.getElem?_eq_some_iff.1 heq).1
    · cases hvar
  have e : cs = #[.iface u v] := by
    rw [← Array.toArray_toList (xs := cs), hcs]
  rw [← e]
  exact var?_below hb hg hgB hvar
theorem base_of {W : World} (h : laidMetH Tryz.prog laid5 W) : GB W.heap.size W := by
  have h1 := laid_tailV (laid_tailV (plain5 W h))
  have e : Rows.laid_internal_strconv_uint64pow10 = (Lib.tabData .u64 Lib.pow10Tab : DataW Unit) := by rfl
  have h2 := laid_tailV h1
  have h3 := laid_tailV h2
  rw [e] at h1
  have t1 := Lib.tabIs_of_head vN1 vT1 Tryz.underlying175 Tryz.underlying77 vC2 vC1 h1
  have e2 := err_of_head vN2 vT2 Tryz.underlying140 h2
  have e3 := err_of_head vN3 vT3 Tryz.underlying140 h3
  exact ⟨Lib.tabBelow_of_tabIs t1, fun w' hb => ⟨e3 w' hb, e2 w' hb⟩⟩
end Go.Proofs.YthfjahagmfgfeaaGreatDoor.Wi
