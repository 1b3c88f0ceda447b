/- From a walk to a tied card, for WholeTold: the tables of value and of cron. -/
import Derived.Test.YthfjahagmfgfeaaGreatDoorGF
import Derived.Test.YthfjahagmfgfeaaGreatDoorKCl
import Derived.Shelf.Vars
import Derived.HandedShaped
namespace Go.Proofs.YthfjahagmfgfeaaGreatDoor.Wi
open Go Go.RowKit Go.ChangeShapes Go.WideShapes Go.ChangeAt
set_option linter.unusedVariables false
/-- 'returnsInHanded_of_change_and', the world's shape kept. -/
theorem handed_and_shapedW {H : Type} {enc : TypeId × Value → H} {a : Assume} {C : Checked} {os : Os} {f : FuncId} {fn : Func} {s : ChangeSpec} {conds : List PathCond} {apart fresh handsOn again : Bool} {X : World → Array Value → Prop}
    (hX : ∀ (w w' : World) (args : Array Value), w.heap = w'.heap → X w args → X w' args)
    (own : Go.ownKnob C.prog.godebug = none) (started : os.Started) (noInit : C.prog.inits.idxOf? f = none) (hfn : C.prog.funcs[f]? = some fn)
    (witness : ∃ (w : World) (tape : Tape) (i : Input), w.os = os ∧ (w.forCall tape i).Shaped C.prog ∧ i.vars = [] ∧ Input.okWide C.prog (w.forCall tape i) .any w.heap.size f i ∧
      ((s.pre enc C.prog fn conds apart (w.forCall tape i).memory i.args ∧ X (w.forCall tape i).memory i.args) ∧ sizedMet enc C.prog fn (OpenSpec.ofChange s) apart (w.forCall tape i).memory i.args) ∧ a.holds C.prog (lone (Frame.enter C.prog f i.args .normal) [] (w.forCall tape i)))
    (contract : ∀ (W : World) (base : Nat) (args : Array Value) (ds gs : List (DataW H)) (before : List MemPlace),
      (∀ (j : Nat) t v, fn.params[j]? = some t → args[j]? = some v → Value.okWide C.prog W .any base t v) →
      DataW.Whole enc C.prog fn.params.toList s.vars apart W args.toList ds gs before →
      conds.all (PathCond.test C.prog ⟨fn.params.toList, ds, s.plain.varTypes C.prog, gs⟩) = true →
      (DataW.weightsEach C.prog (fn.params.toList ++ s.plain.varTypes C.prog) (ds ++ gs)).all (· ≤ reachBytes) = true → X W args → W.ShapedOpen C.prog →
      a.holds C.prog (lone (Frame.enter C.prog f args .normal) [] W) →
      Calls C.prog f args W fun e W' => ∃ v, e = .returned v ∧ s.post enc C.prog fn apart fresh handsOn again W args v W') :
    ReturnsInHanded a C os f .any (fun w args => (s.pre enc C.prog fn conds apart w args ∧ X w args) ∧ sizedMet enc C.prog fn (OpenSpec.ofChange s) apart w args) (s.post enc C.prog fn apart fresh handsOn again) := by
  refine returnsInHanded_of_calls own started noInit witness ?_
  intro w tape i _ hsh _ hok hpre hholds
  obtain ⟨_, _, _, fn', hfn', _, _, _, _, hval⟩ := hok
  have e : fn' = fn := Option.some.inj (hfn'.symm.trans hfn)
  subst e
  obtain ⟨⟨⟨ds, gs, before, hw, hc⟩, hx⟩, hz⟩ := hpre
  have hw' := DataW.Whole.of_heap (w' := w.forCall tape i) (by rfl) hw
  refine (contract (w.forCall tape i) w.heap.size i.args ds gs before hval hw' hc (hz.weights hw) (hX _ _ _ (by rfl) hx) hsh hholds).mono fun e W' ⟨v, he, hp⟩ => ?_
  subst he
  exact ChangeSpec.post_blind hp

theorem wN1 : Tryz.prog.globalNamed "foliot/cron.reach" = some 0 := by kernel_rfl
theorem wN2 : Tryz.prog.globalNamed "foliot/cron.monthLengths" = some 2 := by kernel_rfl
theorem wT1 : (Tryz.prog.globals[0]?).map (·.type) = some 100 := by kernel_rfl
theorem wT2 : (Tryz.prog.globals[2]?).map (·.type) = some 161 := by kernel_rfl
theorem wSpan : Tryz.prog.cellsOf 99 = 2 := by kernel_rfl
theorem wMonths : Tryz.prog.cellsOf 161 = 12 := by kernel_rfl
theorem wInt : Tryz.prog.cellsOf 3 = 1 := by kernel_rfl
def laid9 : List (String × DataW Unit) := [("math/bits.deBruijn32tab", Rows.laid_math_bits_deBruijn32tab), ("math/bits.deBruijn64tab", Rows.laid_math_bits_deBruijn64tab), ("internal/strconv.uint64pow10", Rows.laid_internal_strconv_uint64pow10), ("unicode/utf8.acceptRanges", Rows.laid_unicode_utf8_acceptRanges), ("strconv.ErrRange", Rows.laid_strconv_ErrRange), ("strconv.ErrSyntax", Rows.laid_strconv_ErrSyntax), ("foliot/cron.reach", Rows.laid_foliot_cron_reach), ("foliot/cron.monthLengths", Rows.laid_foliot_cron_monthLengths), ("unicode/utf8.first", Rows.laid_unicode_utf8_first)]
theorem plain9 (W : World) (h : laidMetH Tryz.prog laid9 W) : laidMet Tryz.prog laid9 W := by
  rwa [MakeChecks.laidMetH_plain _ _ _ (by kernel_rfl)] at h
theorem spansW {W : World} {rest : List (String × DataW Unit)} (h : laidMet Tryz.prog (("foliot/cron.reach", Rows.laid_foliot_cron_reach) :: rest) W) : ∀ (j : Nat) v, ([0, 59, 0, 23, 1, 31, 1, 12, 0, 6] : List Int)[j]? = some v → W.cell? ⟨0, j, none⟩ = some (.int .i64 v) := by
  obtain ⟨ps, ⟨g', t', cs, fuel, p, q, hg', ht', hvar, hd, _, _⟩, _⟩ := h
  obtain rfl := Option.some.inj (wN1.symm.trans hg')
  obtain rfl := Option.some.inj (wT1.symm.trans ht')
  obtain ⟨xs, m, rfl, hx, hlen, hxl, hall⟩ := DataW.trod_array Tryz.underlying100 hd
  have hx1 : xs.map (·.1) = ([.agg [.lit (.int .i64 0), .lit (.int .i64 59)], .agg [.lit (.int .i64 0), .lit (.int .i64 23)], .agg [.lit (.int .i64 1), .lit (.int .i64 31)], .agg [.lit (.int .i64 1), .lit (.int .i64 12)], .agg [.lit (.int .i64 0), .lit (.int .i64 6)]] : List (DataW Unit)) := by
    have := congrArg Prod.fst hx
    simpa [Rows.laid_foliot_cron_reach] using this.symm
  have key : ∀ (i : Nat) (a b : Int), i < 5 → (xs.map (·.1))[i]? = some (.agg [.lit (.int .i64 a), .lit (.int .i64 b)]) → cs[i * 2]? = some (.int .i64 a) ∧ cs[i * 2 + 1]? = some (.int .i64 b) := by
    intro i a b hi hab
    have h1 := hall i hi
    rw [wSpan] at h1
    rw [List.getElem?_map] at hab
    cases hxi : xs[i]? with
    | none => rw [hxi] at hab; cases hab
    | some y =>
      rw [hxi] at h1 hab
      simp only [Option.map_some, Option.some.injEq] at hab
      obtain ⟨y0, y1, m', hy, hlen2, h0, h2⟩ := trod_struct2 Tryz.underlying99 h1
      obtain ⟨n0, e0, rfl, _⟩ := DataW.trod_int Tryz.underlying3 h0
      obtain ⟨n1, e1, rfl, _⟩ := DataW.trod_int Tryz.underlying3 h2
      rw [hy] at hab
      simp only [DataW.agg.injEq, List.cons.injEq, DataW.lit.injEq, Lit.int.injEq, and_true, true_and] at hab
      obtain ⟨rfl, rfl⟩ := hab
      rw [show Tryz.prog.cellsOf _ = 1 from wInt] at e0 e1
      have f0 := congrArg (·[0]?) e0
      have f1 := congrArg (·[0]?) e1
      simp at f0 f1
      exact ⟨by simpa using f0, by simpa using f1⟩
  intro j v hj
  have hw : W.cell? ⟨0, j, none⟩ = cs[j]? := by
    have := Go.World.var?_cell wN1 hvar j
    simpa using this
  rw [hw]
  have k0 := key 0 0 59 (by decide) (by rw [hx1]; rfl)
  have k1 := key 1 0 23 (by decide) (by rw [hx1]; rfl)
  have k2 := key 2 1 31 (by decide) (by rw [hx1]; rfl)
  have k3 := key 3 1 12 (by decide) (by rw [hx1]; rfl)
  have k4 := key 4 0 6 (by decide) (by rw [hx1]; rfl)
  match j, hj with
  | 0, hj => cases hj; exact k0.1
  | 1, hj => cases hj; exact k0.2
  | 2, hj => cases hj; exact k1.1
  | 3, hj => cases hj; exact k1.2
  | 4, hj => cases hj; exact k2.1
  | 5, hj => cases hj; exact k2.2
  | 6, hj => cases hj; exact k3.1
  | 7, hj => cases hj; exact k3.2
  | 8, hj => cases hj; exact k4.1
  | 9, hj => cases hj; exact k4.2
  | j + 10, hj => simp at hj
theorem base9 {W : World} (h : laidMetH Tryz.prog laid9 W) (hs : W.ShapedOpen Tryz.prog) : GB W.heap.size W ∧ Cr.CT W := by
  have h1 := laid_tailV (laid_tailV (plain9 W h))
  have e : Rows.laid_internal_strconv_uint64pow10 = (Lib.tabData .u64 Lib.pow10Tab : DataW Unit) := by rfl
  have h2 := laid_tailV (laid_tailV h1)
  have h3 := laid_tailV h2
  have h4 := laid_tailV h3
  have h5 := laid_tailV h4
  rw [e] at h1
  have t1 := Lib.tabIs_of_head vN1 vT1 Tryz.underlying175 Tryz.underlying77 vC2 vC1 h1
  have e2 := err_of_head vN2 vT2 Tryz.underlying140 h2
  have e3 := err_of_head vN3 vT3 Tryz.underlying140 h3
  have em : Rows.laid_foliot_cron_monthLengths = (Lib.tabData .i64 (Cr.mons0.map fun n : Nat => (n : Int)) : DataW Unit) := by rfl
  rw [em] at h5
  have t2 := Lib.tabIs_of_head wN2 wT2 Tryz.underlying161 Tryz.underlying3 wInt wMonths h5
  refine ⟨⟨Lib.tabBelow_of_tabIs t1, fun w' hb => ⟨e3 w' hb, e2 w' hb⟩⟩, spansW h4, fun j hj => ?_, ?_⟩
  · have := t2.cell wN2 j hj
    rw [this]
    have hl : j < Cr.mons0.length := hj
    simp [List.getD, hl]
  · exact Go.Proofs.cell_of_shapedOpen_int (zero := #[.int .i64 0]) (t := 3) hs (of_decide_eq_true (by kernel_rfl)) (by kernel_rfl) rfl (by kernel_rfl) (by kernel_rfl) Tryz.underlying3
end Go.Proofs.YthfjahagmfgfeaaGreatDoor.Wi
