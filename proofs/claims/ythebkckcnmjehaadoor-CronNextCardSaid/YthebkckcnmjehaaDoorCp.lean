/- From a law's walk to its tied card: what every law of this seat needs behind its walk. -/
import Derived.Test.YthebkckcnmjehaaDoorCa
import Derived.Test.YthebkckcnmjehaaDoorTie
import Derived.Test.YthebkckcnmjehaaDoorCards
import Derived.ProofKit
import Derived.OpenShut
import Derived.Carry
import Derived.LaidMore
import Derived.Lay
import Derived.SevenTiedAt
import Derived.Stop.Joined
import Derived.Lib.LaidTab
import Derived.Shelf.Vars
import Derived.HandedShaped
namespace Go.Proofs.YthebkckcnmjehaaDoor
open Go Go.RowKit Go.ChangeShapes Go.WideShapes Go.ChangeAt
set_option linter.unusedVariables false

theorem Tryd.ownKnob : ownKnob Tryd.prog.godebug = none := by kernel_rfl
theorem Tryd.laid : laidOutB Tryd.prog = true := by kernel_rfl

theorem trodAll_below {H : Type} {enc : TypeId × Value → H} {W W' : World} (hb : Below W.heap.size W W') : ∀ (ts : List TypeId) (vs : List Value) (ds : List (DataW H)) (p : List MemPlace), (∀ t ∈ ts, Tryd.prog.readableRec t = true ∧ t < Tryd.prog.types.size) →
    DataW.TrodAll enc Tryd.prog W 0 (fun _ => true) true ts vs ds p → (∀ x ∈ p, x.block < W.heap.size) → DataW.TrodAll enc Tryd.prog W' 0 (fun b => decide (b < W.heap.size)) true ts vs ds p := by
  intro ts
  induction ts with
  | nil =>
    intro vs ds p _ h _
    obtain ⟨rfl, rfl, rfl⟩ := trodAll_nil h
    exact trodAll_mk0
  | cons t ts ih =>
    intro vs ds p ht h hp
    obtain ⟨v0, vs0, d0, ds0, p0, q0, rfl, rfl, rfl, h0, r0⟩ := trodAll_cons h
    exact trodAll_cons_mk (Below.trod Tryd.laid (ht t (by simp)).1 (ht t (by simp)).2 h0 hb (fun x hx => hp x (by simp [hx]))) (ih _ _ _ (fun t' h' => ht t' (by simp [h'])) r0 (fun x hx => hp x (by simp [hx])))

/-- The law has returned true, and of what was there nothing has turned. -/
theorem law_done {H : Type} {enc : TypeId × Value → H} {f : Func} {s : ChangeSpec} {W W' : World} {args : Array Value} {ds : List (DataW H)} {p : List MemPlace} (hs : s.vars = []) (hrt : f.resultTypes = #[4])
    (hts : ∀ t ∈ f.params.toList, Tryd.prog.readableRec t = true ∧ t < Tryd.prog.types.size) (hfn : s.fn H (ds ++ []) = { results := [.lit (.bool true)], args := ds })
    (hA : DataW.TrodAll enc Tryd.prog W 0 (fun _ => true) true f.params.toList args.toList ds p) (hW : DataW.Whole enc Tryd.prog f.params.toList s.vars false W args.toList ds [] p) (hb : Below W.heap.size W W') :
    s.post enc Tryd.prog f false true false false W args (.bool true) W' := by
  refine ⟨ds, [], p, [], p, [], hW, ?_, ?_, ?_, hb.frame _, fun h => by cases h⟩
  · rw [hfn, hrt]
    exact trodAll_cons_mk (shut_bool Tryd.underlying4 _) trodAll_mk0
  · rw [hfn]
    exact trodAll_below hb _ _ _ _ hts hA (fun x hx => hW.lt x hx)
  · rw [hfn, hs]
    exact rfl

/-- 'returnsInHanded_of_change_and', the world's shape kept. -/
theorem handed_and_shaped {H : Type} {enc : TypeId × Value → H} {a : Assume} {C : Checked} {os : Os} {f : FuncId} {fn : Func} {s : ChangeSpec} {conds : List PathCond} {apart fresh handsOn again : Bool} {X : World → Array Value → Prop}
    (hX : ∀ (w w' : World) (args : Array Value), w.heap = w'.heap → X w args → X w' args)
    (own : Go.ownKnob C.prog.godebug = none) (started : os.Started) (noInit : C.prog.inits.idxOf? f = none) (hfn : C.prog.funcs[f]? = some fn)
    (witness : ∃ (w : World) (tape : Tape) (i : Input), w.os = os ∧ (w.forCall tape i).Shaped C.prog ∧ i.vars = [] ∧ Input.okWide C.prog (w.forCall tape i) .any w.heap.size f i ∧
      ((s.pre enc C.prog fn conds apart (w.forCall tape i).memory i.args ∧ X (w.forCall tape i).memory i.args) ∧ sizedMet enc C.prog fn (OpenSpec.ofChange s) apart (w.forCall tape i).memory i.args) ∧ a.holds C.prog (lone (Frame.enter C.prog f i.args .normal) [] (w.forCall tape i)))
    (contract : ∀ (W : World) (base : Nat) (args : Array Value) (ds gs : List (DataW H)) (before : List MemPlace),
      (∀ (j : Nat) t v, fn.params[j]? = some t → args[j]? = some v → Value.okWide C.prog W .any base t v) →
      DataW.Whole enc C.prog fn.params.toList s.vars apart W args.toList ds gs before →
      conds.all (PathCond.test C.prog ⟨fn.params.toList, ds, s.plain.varTypes C.prog, gs⟩) = true →
      (DataW.weightsEach C.prog (fn.params.toList ++ s.plain.varTypes C.prog) (ds ++ gs)).all (· ≤ reachBytes) = true → X W args → W.ShapedOpen C.prog →
      a.holds C.prog (lone (Frame.enter C.prog f args .normal) [] W) →
      Calls C.prog f args W fun e W' => ∃ v, e = .returned v ∧ s.post enc C.prog fn apart fresh handsOn again W args v W') :
    ReturnsInHanded a C os f .any (fun w args => (s.pre enc C.prog fn conds apart w args ∧ X w args) ∧ sizedMet enc C.prog fn (OpenSpec.ofChange s) apart w args) (s.post enc C.prog fn apart fresh handsOn again) := by
  refine returnsInHanded_of_calls own started noInit witness ?_
  intro w tape i _ hsh _ hok hpre hholds
  obtain ⟨_, _, _, fn', hfn', _, _, _, _, hval⟩ := hok
  have e : fn' = fn := Option.some.inj (hfn'.symm.trans hfn)
  subst e
  obtain ⟨⟨⟨ds, gs, before, hw, hc⟩, hx⟩, hz⟩ := hpre
  have hw' := DataW.Whole.of_heap (w' := w.forCall tape i) (by rfl) hw
  refine (contract (w.forCall tape i) w.heap.size i.args ds gs before hval hw' hc (hz.weights hw) (hX _ _ _ (by rfl) hx) hsh hholds).mono fun e W' ⟨v, he, hp⟩ => ?_
  subst he
  exact ChangeSpec.post_blind hp

theorem gN1 : Tryd.prog.globalNamed "foliot/cron.reach" = some 0 := by kernel_rfl
theorem gN2 : Tryd.prog.globalNamed "foliot/cron.monthLengths" = some 1 := by kernel_rfl
theorem gT1 : (Tryd.prog.globals[0]?).map (·.type) = some 63 := by kernel_rfl
theorem gT2 : (Tryd.prog.globals[1]?).map (·.type) = some 97 := by kernel_rfl
theorem cSpans : Tryd.prog.cellsOf 63 = 10 := by kernel_rfl
theorem cSpan : Tryd.prog.cellsOf 62 = 2 := by kernel_rfl
theorem cMonths : Tryd.prog.cellsOf 97 = 12 := by kernel_rfl
theorem cInt : Tryd.prog.cellsOf 3 = 1 := by kernel_rfl
def laid4 : List (String × DataW Unit) := [("unicode/utf8.acceptRanges", Rows.laid_unicode_utf8_acceptRanges), ("foliot/cron.reach", Rows.laid_foliot_cron_reach), ("foliot/cron.monthLengths", Rows.laid_foliot_cron_monthLengths), ("unicode/utf8.first", Rows.laid_unicode_utf8_first)]
theorem plain4 (W : World) (h : laidMetH Tryd.prog laid4 W) : laidMet Tryd.prog laid4 W := by
  rwa [MakeChecks.laidMetH_plain _ _ _ (by kernel_rfl)] at h
theorem laid_tail {P : Program} {W : World} {x : String × DataW Unit} {l : List (String × DataW Unit)} (h : laidMet P (x :: l) W) : laidMet P l W := by
  obtain ⟨ps, h1, h2, h3⟩ := h
  obtain ⟨g, t, cs, fuel, p, q, hg, ht, hv, hd, hq, rfl⟩ := h1
  exact ⟨q, hq, (List.nodup_append.1 h2).2.1, fun b off hb => h3 b off (List.mem_append.2 (Or.inr hb))⟩
theorem spans_of_head {W : World} {rest : List (String × DataW Unit)} (h : laidMet Tryd.prog (("foliot/cron.reach", Rows.laid_foliot_cron_reach) :: rest) W) : ∀ (j : Nat) v, ([0, 59, 0, 23, 1, 31, 1, 12, 0, 6] : List Int)[j]? = some v → W.cell? ⟨0, j, none⟩ = some (.int .i64 v) := by
  obtain ⟨ps, ⟨g', t', cs, fuel, p, q, hg', ht', hvar, hd, _, _⟩, _⟩ := h
  obtain rfl := Option.some.inj (gN1.symm.trans hg')
  obtain rfl := Option.some.inj (gT1.symm.trans ht')
  obtain ⟨xs, m, rfl, hx, hlen, hxl, hall⟩ := DataW.trod_array Tryd.underlying63 hd
  have hx1 : xs.map (·.1) = ([.agg [.lit (.int .i64 0), .lit (.int .i64 59)], .agg [.lit (.int .i64 0), .lit (.int .i64 23)], .agg [.lit (.int .i64 1), .lit (.int .i64 31)], .agg [.lit (.int .i64 1), .lit (.int .i64 12)], .agg [.lit (.int .i64 0), .lit (.int .i64 6)]] : List (DataW Unit)) := by
    have := congrArg Prod.fst hx
    simpa [Rows.laid_foliot_cron_reach] using this.symm
  have key : ∀ (i : Nat) (a b : Int), i < 5 → (xs.map (·.1))[i]? = some (.agg [.lit (.int .i64 a), .lit (.int .i64 b)]) → cs[i * 2]? = some (.int .i64 a) ∧ cs[i * 2 + 1]? = some (.int .i64 b) := by
    intro i a b hi hab
    have h1 := hall i hi
    rw [cSpan] at h1
    rw [List.getElem?_map] at hab
    cases hxi : xs[i]? with
    | none => rw [hxi] at hab; cases hab
    | some y =>
      rw [hxi] at h1 hab
      simp only [Option.map_some, Option.some.injEq] at hab
      obtain ⟨y0, y1, m', hy, hlen2, h0, h2⟩ := trod_struct2 Tryd.underlying62 h1
      obtain ⟨n0, e0, rfl, _⟩ := DataW.trod_int Tryd.underlying3 h0
      obtain ⟨n1, e1, rfl, _⟩ := DataW.trod_int Tryd.underlying3 h2
      rw [hy] at hab
      simp only [DataW.agg.injEq, List.cons.injEq, DataW.lit.injEq, Lit.int.injEq, and_true, true_and] at hab
      obtain ⟨rfl, rfl⟩ := hab
      rw [show Tryd.prog.cellsOf _ = 1 from cInt] at e0 e1
      have f0 := congrArg (·[0]?) e0
      have f1 := congrArg (·[0]?) e1
      simp at f0 f1
      exact ⟨by simpa using f0, by simpa using f1⟩
  intro j v hj
  have hw : W.cell? ⟨0, j, none⟩ = cs[j]? := by
    have := Go.World.var?_cell gN1 hvar j
    simpa using this
  rw [hw]
  have k0 := key 0 0 59 (by decide) (by rw [hx1]; rfl)
  have k1 := key 1 0 23 (by decide) (by rw [hx1]; rfl)
  have k2 := key 2 1 31 (by decide) (by rw [hx1]; rfl)
  have k3 := key 3 1 12 (by decide) (by rw [hx1]; rfl)
  have k4 := key 4 0 6 (by decide) (by rw [hx1]; rfl)
  match j, hj with
  | 0, hj => cases hj; exact k0.1
  | 1, hj => cases hj; exact k0.2
  | 2, hj => cases hj; exact k1.1
  | 3, hj => cases hj; exact k1.2
  | 4, hj => cases hj; exact k2.1
  | 5, hj => cases hj; exact k2.2
  | 6, hj => cases hj; exact k3.1
  | 7, hj => cases hj; exact k3.2
  | 8, hj => cases hj; exact k4.1
  | 9, hj => cases hj; exact k4.2
  | j + 10, hj => simp at hj
theorem tables_of {W : World} (h : laidMetH Tryd.prog laid4 W) (hs : W.ShapedOpen Tryd.prog) : CT W := by
  have h' := laid_tail (plain4 W h)
  have e : Rows.laid_foliot_cron_monthLengths = (Lib.tabData .i64 (mons0.map fun n : Nat => (n : Int)) : DataW Unit) := by rfl
  have h2 := laid_tail h'
  rw [e] at h2
  have t2 := Lib.tabIs_of_head gN2 gT2 Tryd.underlying97 Tryd.underlying3 cInt cMonths h2
  refine ⟨spans_of_head h', fun j hj => ?_, ?_⟩
  · have := t2.cell gN2 j hj
    rw [this]
    have hl : j < mons0.length := hj
    simp [List.getD, hl]
  · exact Go.Proofs.cell_of_shapedOpen_int (zero := #[.int .i64 0]) (t := 3) hs (of_decide_eq_true (by kernel_rfl)) (by kernel_rfl) rfl (by kernel_rfl) (by kernel_rfl) Tryd.underlying3
end Go.Proofs.YthebkckcnmjehaaDoor
