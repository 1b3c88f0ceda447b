/- Slices of bytes that come in; from a law's walk to its row. -/
import Derived.Test.YthcliaaoadfegaaDs
import Derived.Test.YthcliaaoadfegaaRows
import Derived.ProofKit
import Derived.OpenShut
import Derived.Carry
import Derived.Laws.BytesArg
import Derived.Deep.QuietTactic
import Derived.BigQuiet
import Derived.RegionTactic
import Derived.ChangeAlike
import Derived.BigRegion
namespace Go.Proofs.Ythcliaaoadfegaa.Dk
open Go Go.RowKit Go.ChangeShapes Go.WideShapes Go.ChangeAt
set_option linter.unusedVariables false
set_option linter.unusedSimpArgs false

def str (ys : List UInt8) : ByteArray := ⟨ys.toArray⟩
theorem str_of_nums (ys : List UInt8) : strOfNums (ys.map fun b => (b.toNat : Int)) = str ys := by
  simp [strOfNums, str, Function.comp_def]
theorem run_convert_sl {w : World} {ao : Option Addr} {n c : Nat} {ys : List UInt8} (hn : ys.length = n) (hno : ao = none → ys = []) (hs : ∀ a, ao = some a → ∀ j u, (bvs ys)[j]? = some u → w.cell? (a.add j) = some u) :
    (convert 34 9 (.slice ao n c)).run Try.prog w = .ok (.string (str ys)) w := by
  cases ao with
  | none =>
    obtain rfl := hno rfl
    subst hn
    exact run_convert_bytes_nil w 34 5 Try.underlying34 Try.underlying5 _ _ 9 Try.underlying9
  | some a =>
    have hl : (loadCells a n).run Try.prog w = .ok ((ys.map fun b => (b.toNat : Int)).map (Value.int .u8)).toArray w := by
      have := run_loadCells_list (P := Try.prog) w a (bvs ys) (hs a rfl)
      rw [bvs_length, hn] at this
      rw [this]
      simp [bvs, bv, Function.comp_def]
    rw [run_convert_bytes_string w 34 9 5 _ n c Try.underlying34 Try.underlying5 Try.underlying9, run_bytesToString w _ n c _ hl, foldl_push_bytes, ← str_of_nums]
    simp [strOfNums, ByteArray.empty, ByteArray.emptyWithCapacity]
    rfl

/-- A slice of these bytes. -/
def Sl (w : World) (v : Value) (ys : List UInt8) : Prop :=
  ∃ ao c, v = .slice ao ys.length c ∧ (ao = none → ys = []) ∧ ∀ a, ao = some a → ∀ j u, (bvs ys)[j]? = some u → w.cell? (a.add j) = some u


theorem Try.ownKnob : ownKnob Try.prog.godebug = none := by kernel_rfl
theorem Try.laid : laidOutB Try.prog = true := by kernel_rfl

theorem trodAll_below {H : Type} {enc : TypeId × Value → H} {W W' : World} (hb : Below W.heap.size W W') : ∀ (ts : List TypeId) (vs : List Value) (ds : List (DataW H)) (p : List MemPlace), (∀ t ∈ ts, Try.prog.readableRec t = true ∧ t < Try.prog.types.size) →
    DataW.TrodAll enc Try.prog W 0 (fun _ => true) true ts vs ds p → (∀ x ∈ p, x.block < W.heap.size) → DataW.TrodAll enc Try.prog W' 0 (fun b => decide (b < W.heap.size)) true ts vs ds p := by
  intro ts
  induction ts with
  | nil =>
    intro vs ds p _ h _
    obtain ⟨rfl, rfl, rfl⟩ := trodAll_nil h
    exact trodAll_mk0
  | cons t ts ih =>
    intro vs ds p ht h hp
    obtain ⟨v0, vs0, d0, ds0, p0, q0, rfl, rfl, rfl, h0, r0⟩ := trodAll_cons h
    exact trodAll_cons_mk (Below.trod Try.laid (ht t (by simp)).1 (ht t (by simp)).2 h0 hb (fun x hx => hp x (by simp [hx]))) (ih _ _ _ (fun t' h' => ht t' (by simp [h'])) r0 (fun x hx => hp x (by simp [hx])))

/-- The law has returned true, and of what was there nothing has turned. -/
theorem law_done {H : Type} {enc : TypeId × Value → H} {f : Func} {s : ChangeSpec} {W W' : World} {args : Array Value} {ds : List (DataW H)} {p : List MemPlace} (hs : s.vars = []) (hrt : f.resultTypes = #[4])
    (hts : ∀ t ∈ f.params.toList, Try.prog.readableRec t = true ∧ t < Try.prog.types.size) (hfn : s.fn H (ds ++ []) = { results := [.lit (.bool true)], args := ds })
    (hA : DataW.TrodAll enc Try.prog W 0 (fun _ => true) true f.params.toList args.toList ds p) (hW : DataW.Whole enc Try.prog f.params.toList s.vars false W args.toList ds [] p) (hb : Below W.heap.size W W') :
    s.post enc Try.prog f false true false false W args (.bool true) W' := by
  refine ⟨ds, [], p, [], p, [], hW, ?_, ?_, ?_, hb.frame _, fun h => by cases h⟩
  · rw [hfn, hrt]
    exact trodAll_cons_mk (shut_bool Try.underlying4 _) trodAll_mk0
  · rw [hfn]
    exact trodAll_below hb _ _ _ _ hts hA (fun x hx => hW.lt x hx)
  · rw [hfn, hs]
    exact rfl

/-- Bytes out of numbers. -/
def ofInts (zs : List Int) : List UInt8 := zs.map fun z => UInt8.ofNat z.toNat
theorem ofInts_get (zs : List Int) (hz : ∀ z ∈ zs, 0 ≤ z ∧ z ≤ 255) (j : Nat) (u : Value) (h : (bvs (ofInts zs))[j]? = some u) : j < zs.length ∧ u = .int .u8 (zs.getD j 0) := by
  have hj : j < zs.length := by
    have := (List.getElem?_eq_some_iff.1 h).1
    simpa [bvs, ofInts] using this
  refine ⟨hj, ?_⟩
  have hb := hz zs[j] (List.getElem_mem hj)
  have e : (bvs (ofInts zs))[j]? = some (bv (UInt8.ofNat zs[j].toNat)) := by simp [bvs, ofInts, hj]
  rw [e] at h
  injection h with h
  rw [← h]
  simp only [bv, List.getD, List.getElem?_eq_getElem hj, Option.getD_some]
  congr 1
  rw [UInt8.toNat_ofNat']
  omega

set_option maxRecDepth 100000 in
/-- A slice of bytes that came in. -/
theorem open_bytes {H : Type} {enc : TypeId × Value → H} {W : World} {base : Nat} {v : Value} {d : DataW H} {p : List MemPlace} (hv : Value.okWide Try.prog W .any base 34 v) (h : DataW.Trod enc Try.prog W 0 (fun _ => true) true 34 v d p) :
    ∃ ao c xs, v = .slice ao xs.length c ∧ Sl W (.slice ao xs.length c) xs ∧ xs.length ≤ c ∧ c ≤ 9223372036854775807 := by
  obtain ⟨a0, len, cap, rfl⟩ := okWide_slice Try.underlying34 hv
  obtain ⟨fuel, hf⟩ := h
  rcases open_ints Try.underlying34 Try.underlying5 (by kernel_rfl) hf with ⟨hcs, hx⟩ | ⟨a, len', cap', zs, hcs, _, hl, hm, hz, hx, hcell, hwz⟩
  · simp only [Value.cells] at hcs
    injection hcs with hcs
    rw [hcs]
    exact ⟨none, 0, [], rfl, ⟨none, 0, rfl, (fun _ => rfl), (fun a ha => by cases ha)⟩, by simp, by omega⟩
  · simp only [Value.cells] at hcs
    injection hcs with hcs
    rw [hcs]
    simp only [if_true] at hz
    have hb : ∀ z ∈ zs.take len', 0 ≤ z ∧ z ≤ 255 := fun z hz' => bounds_u8 (hwz z (List.mem_of_mem_take hz'))
    have hlen : (ofInts (zs.take len')).length = len' := by simp [ofInts]; omega
    refine ⟨some a, cap', ofInts (zs.take len'), (by rw [hlen]), ⟨some a, cap', rfl, (fun h => by cases h), ?_⟩, (by omega), (by unfold maxLen at hm; omega)⟩
    intro a' ha j u hu
    cases ha
    obtain ⟨hj, rfl⟩ := ofInts_get _ hb j u hu
    have hj' : j < len' := by have : (zs.take len').length ≤ len' := List.length_take_le _ _; omega
    rw [hcell j (by omega)]
    simp [List.getD, hj']

theorem Sl.below {w w' : World} {v : Value} {xs : List UInt8} (h : Sl w v xs) (hb : Below w.heap.size w w') : Sl w' v xs := by
  obtain ⟨ao, c, rfl, hno, hs⟩ := h
  refine ⟨ao, c, rfl, hno, fun a ha j u hu => ?_⟩
  have := hs a ha j u hu
  rw [hb.cell (World.block_lt_of_cell? w _ this)]
  exact this
/-- The first ones of a slice. -/
theorem Sl.convert {w : World} {ao : Option Addr} {n c : Nat} {ys : List UInt8} (h : Sl w (.slice ao n c) ys) : (Go.convert 34 9 (.slice ao n c)).run Try.prog w = .ok (.string (str ys)) w ∧ ys.length = n := by
  obtain ⟨ao', c', e, hno, hs⟩ := h
  injection e with e1 e2 e3
  subst e1 e2 e3
  exact ⟨run_convert_sl rfl hno hs, rfl⟩
theorem Sl.front {w : World} {ao : Option Addr} {n c k : Nat} {ys : List UInt8} (h : Sl w (.slice ao n c) ys) (hk : k ≤ n) (c' : Nat) : Sl w (.slice ao k c') (ys.take k) := by
  obtain ⟨ao', c'', e, hno, hs⟩ := h
  injection e with e1 e2 e3
  subst e1 e2 e3
  refine ⟨ao, c', by simp [Nat.min_eq_left hk], fun e => by rw [hno e]; simp, fun a ha j u hu => ?_⟩
  refine hs a ha j u ?_
  simp only [bvs, List.map_take] at hu ⊢
  rw [List.getElem?_take] at hu
  split at hu
  · exact hu
  · cases hu
end Go.Proofs.Ythcliaaoadfegaa.Dk
