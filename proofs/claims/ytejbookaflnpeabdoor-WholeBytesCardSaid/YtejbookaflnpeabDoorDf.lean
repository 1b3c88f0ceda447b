/- From a sum law's walk to its tied card: what every law of this seat needs behind its walk. -/
import Derived.Test.YtejbookaflnpeabDoorDa
import Derived.Test.YtejbookaflnpeabDoorTie
import Derived.Test.YtejbookaflnpeabDoorCards
import Derived.ProofKit
import Derived.OpenShut
import Derived.Carry
import Derived.LaidMore
import Derived.Lay
import Derived.SevenTiedAt
import Derived.Stop.Joined
import Derived.Deep.Matrix
import Derived.Lib.LaidTab
namespace Go.Proofs.YtejbookaflnpeabDoor
open Go Go.RowKit Go.ChangeShapes Go.WideShapes Go.ChangeAt
set_option linter.unusedVariables false

theorem Tryd.ownKnob : ownKnob Tryd.prog.godebug = none := by kernel_rfl
theorem Tryd.laid : laidOutB Tryd.prog = true := by kernel_rfl

theorem trodAll_below {H : Type} {enc : TypeId × Value → H} {W W' : World} (hb : Below W.heap.size W W') : ∀ (ts : List TypeId) (vs : List Value) (ds : List (DataW H)) (p : List MemPlace), (∀ t ∈ ts, Tryd.prog.readableRec t = true ∧ t < Tryd.prog.types.size) →
    DataW.TrodAll enc Tryd.prog W 0 (fun _ => true) true ts vs ds p → (∀ x ∈ p, x.block < W.heap.size) → DataW.TrodAll enc Tryd.prog W' 0 (fun b => decide (b < W.heap.size)) true ts vs ds p := by
  intro ts
  induction ts with
  | nil =>
    intro vs ds p _ h _
    obtain ⟨rfl, rfl, rfl⟩ := trodAll_nil h
    exact trodAll_mk0
  | cons t ts ih =>
    intro vs ds p ht h hp
    obtain ⟨v0, vs0, d0, ds0, p0, q0, rfl, rfl, rfl, h0, r0⟩ := trodAll_cons h
    exact trodAll_cons_mk (Below.trod Tryd.laid (ht t (by simp)).1 (ht t (by simp)).2 h0 hb (fun x hx => hp x (by simp [hx]))) (ih _ _ _ (fun t' h' => ht t' (by simp [h'])) r0 (fun x hx => hp x (by simp [hx])))

/-- The law has returned true, and of what was there nothing has turned. -/
theorem law_done {H : Type} {enc : TypeId × Value → H} {f : Func} {s : ChangeSpec} {W W' : World} {args : Array Value} {ds : List (DataW H)} {p : List MemPlace} (hs : s.vars = []) (hrt : f.resultTypes = #[4])
    (hts : ∀ t ∈ f.params.toList, Tryd.prog.readableRec t = true ∧ t < Tryd.prog.types.size) (hfn : s.fn H (ds ++ []) = { results := [.lit (.bool true)], args := ds })
    (hA : DataW.TrodAll enc Tryd.prog W 0 (fun _ => true) true f.params.toList args.toList ds p) (hW : DataW.Whole enc Tryd.prog f.params.toList s.vars false W args.toList ds [] p) (hb : Below W.heap.size W W') :
    s.post enc Tryd.prog f false true false false W args (.bool true) W' := by
  refine ⟨ds, [], p, [], p, [], hW, ?_, ?_, ?_, hb.frame _, fun h => by cases h⟩
  · rw [hfn, hrt]
    exact trodAll_cons_mk (shut_bool Tryd.underlying4 _) trodAll_mk0
  · rw [hfn]
    exact trodAll_below hb _ _ _ _ hts hA (fun x hx => hW.lt x hx)
  · rw [hfn, hs]
    exact rfl

theorem gN1 : Tryd.prog.globalNamed "foliot/sum.start" = some 1 := by kernel_rfl
theorem gN2 : Tryd.prog.globalNamed "foliot/sum.rounds" = some 3 := by kernel_rfl
theorem gT1 : (Tryd.prog.globals[1]?).map (·.type) = some 50 := by kernel_rfl
theorem gT2 : (Tryd.prog.globals[3]?).map (·.type) = some 115 := by kernel_rfl
theorem cA8 : Tryd.prog.cellsOf 50 = 8 := by kernel_rfl
theorem cA64 : Tryd.prog.cellsOf 115 = 64 := by kernel_rfl
theorem cU8 : Tryd.prog.cellsOf 5 = 1 := by kernel_rfl
theorem cBytes : Tryd.prog.cellsOf 41 = 1 := by kernel_rfl
theorem cU32 : Tryd.prog.cellsOf 39 = 1 := by kernel_rfl
def laid2 : List (String × DataW Unit) := [("foliot/sum.start", Rows.laid_foliot_sum_start), ("foliot/sum.rounds", Rows.laid_foliot_sum_rounds)]
theorem plain2 (W : World) (h : laidMetH Tryd.prog laid2 W) : laidMet Tryd.prog laid2 W := by
  rwa [MakeChecks.laidMetH_plain _ _ _ (by kernel_rfl)] at h
theorem laid_tail {P : Program} {W : World} {x : String × DataW Unit} {l : List (String × DataW Unit)} (h : laidMet P (x :: l) W) : laidMet P l W := by
  obtain ⟨ps, h1, h2, h3⟩ := h
  obtain ⟨g, t, cs, fuel, p, q, hg, ht, hv, hd, hq, rfl⟩ := h1
  exact ⟨q, hq, (List.nodup_append.1 h2).2.1, fun b off hb => h3 b off (List.mem_append.2 (Or.inr hb))⟩
theorem tables_of {W : World} (h : laidMetH Tryd.prog laid2 W) : Tables W S0 K0 := by
  have h' := plain2 W h
  have e : laid2 = ("foliot/sum.start", Lib.tabData .u32 (S0.map fun n : Nat => (n : Int))) :: ("foliot/sum.rounds", Lib.tabData .u32 (K0.map fun n : Nat => (n : Int))) :: [] := by rfl
  rw [e] at h'
  have t1 := Lib.tabIs_of_head gN1 gT1 Tryd.underlying50 Tryd.underlying39 cU32 cA8 h'
  have t2 := Lib.tabIs_of_head gN2 gT2 Tryd.underlying115 Tryd.underlying39 cU32 cA64 (laid_tail h')
  refine ⟨rfl, rfl, fun i hi => ?_, fun i hi => ?_⟩
  · have := t1.cell gN1 i (by rw [List.length_map]; exact hi)
    rw [this]
    have hl : i < S0.length := hi
    simp [List.getD, hl]
  · have := t2.cell gN2 i (by rw [List.length_map]; exact hi)
    rw [this]
    have hl : i < K0.length := hi
    simp [List.getD, hl]

/-- Bytes out of numbers. -/
def ofInts (zs : List Int) : List UInt8 := zs.map fun z => UInt8.ofNat z.toNat
theorem ofInts_get (zs : List Int) (hz : ∀ z ∈ zs, 0 ≤ z ∧ z ≤ 255) (j : Nat) (u : Value) (h : (bvs (ofInts zs))[j]? = some u) : j < zs.length ∧ u = .int .u8 (zs.getD j 0) := by
  have hj : j < zs.length := by
    have := (List.getElem?_eq_some_iff.1 h).1
    simpa [bvs, ofInts] using this
  refine ⟨hj, ?_⟩
  have hb := hz zs[j] (List.getElem_mem hj)
  have e : (bvs (ofInts zs))[j]? = some (bv (UInt8.ofNat zs[j].toNat)) := by simp [bvs, ofInts, hj]
  rw [e] at h
  injection h with h
  rw [← h]
  simp only [bv, List.getD, List.getElem?_eq_getElem hj, Option.getD_some]
  congr 1
  rw [UInt8.toNat_ofNat']
  omega
theorem bs_of_cells {W : World} {ao : Option Addr} {l c : Nat} {zs : List Int} (hl : l ≤ c) (hz : zs.length = c) (hno : ao = Option.none → c = 0) (hb : ∀ z ∈ zs, 0 ≤ z ∧ z ≤ 255) (hc : ∀ a, ao = some a → ∀ j, j < c → W.cell? (a.add j) = some (.int .u8 (zs.getD j 0))) :
    Bs W (.slice ao l c) (ofInts (zs.take l)) ∧ (ofInts (zs.take l)).length = l := by
  have hlen : (ofInts (zs.take l)).length = l := by simp [ofInts]; omega
  refine ⟨⟨ao, c, by rw [hlen], by omega, fun h => by have := hno h; omega, fun a ha j u hu => ?_⟩, hlen⟩
  obtain ⟨hj, rfl⟩ := ofInts_get _ (fun z hz' => hb z (List.mem_of_mem_take hz')) j u hu
  have hj' : j < l := by have : (zs.take l).length ≤ l := List.length_take_le _ _; omega
  rw [hc a ha j (by omega)]
  simp [List.getD, hj']
set_option maxRecDepth 100000 in
/-- A slice of bytes that came in. -/
theorem open_bs {H : Type} {enc : TypeId × Value → H} {W : World} {base : Nat} {v : Value} {d : DataW H} {p : List MemPlace} (hv : Value.okWide Tryd.prog W .any base 41 v) (h : DataW.Trod enc Tryd.prog W 0 (fun _ => true) true 41 v d p) :
    ∃ ao c xs, v = .slice ao xs.length c ∧ Bs W (.slice ao xs.length c) xs ∧ c ≤ 9223372036854775807 := by
  obtain ⟨a0, len, cap, rfl⟩ := okWide_slice Tryd.underlying41 hv
  obtain ⟨fuel, hf⟩ := h
  rcases open_ints Tryd.underlying41 Tryd.underlying5 cU8 hf with ⟨hcs, hx⟩ | ⟨a, len', cap', zs, hcs, _, hl, hm, hz, hx, hcell, hwz⟩
  · simp only [Value.cells] at hcs
    injection hcs with hcs
    rw [hcs]
    exact ⟨Option.none, 0, [], rfl, Bs.none W, Nat.zero_le _⟩
  · simp only [Value.cells] at hcs
    injection hcs with hcs
    rw [hcs]
    simp only [if_true] at hz
    obtain ⟨b1, b2⟩ := bs_of_cells (W := W) (ao := some a) hl hz (fun h => by cases h) (fun z hz' => bounds_u8 (hwz z hz')) (fun a' ha j hj => by cases ha; exact hcell j (by omega))
    refine ⟨some a, cap', ofInts (zs.take len'), by rw [b2], by rw [b2]; exact b1, by unfold maxLen at hm; omega⟩
set_option maxRecDepth 100000 in
/-- A slice of such slices that came in. -/
theorem open_parts {H : Type} {enc : TypeId × Value → H} {W : World} {base : Nat} {v : Value} {d : DataW H} {p : List MemPlace} (hv : Value.okWide Tryd.prog W .any base 55 v) (h : DataW.Trod enc Tryd.prog W 0 (fun _ => true) true 55 v d p) :
    ∃ L, Pt W v L ∧ L.length ≤ 9223372036854775807 ∧ ∀ p ∈ L, p.2.length ≤ 9223372036854775807 := by
  obtain ⟨a0, len, cap, rfl⟩ := okWide_slice Tryd.underlying55 hv
  obtain ⟨fuel, hf⟩ := h
  rcases Go.Deep.open_int_rows Tryd.underlying55 Tryd.underlying41 Tryd.underlying5 cBytes cU8 hf with ⟨hcs, hx⟩ | ⟨a, len', cap', A, L, C, Z, hcs, _, hl, hm, hx, hr⟩
  · simp only [Value.cells] at hcs
    injection hcs with hcs
    rw [hcs]
    exact ⟨[], Pt.none W, Nat.zero_le _, fun p hp => by cases hp⟩
  · simp only [Value.cells] at hcs
    injection hcs with hcs
    rw [hcs]
    unfold maxLen at hm hr
    have hrow : ∀ r, r < len' → Bs W (.slice (A r) (L r) (C r)) (ofInts ((Z r).take (L r))) ∧ (ofInts ((Z r).take (L r))).length = L r ∧ L r ≤ 9223372036854775807 := fun r hrl => by
      obtain ⟨h1, h2, h3, h4, h5, h6, h7⟩ := hr r (by omega)
      obtain ⟨b1, b2⟩ := bs_of_cells (W := W) h2 h4 h6 (fun z hz' => bounds_u8 (h5 z hz')) (fun a' ha j hj => (h7 a' ha).2 j hj)
      exact ⟨b1, b2, by omega⟩
    refine ⟨(List.range len').map fun r => (.slice (A r) (L r) (C r), ofInts ((Z r).take (L r))), ⟨some a, cap', by simp, (by intro e; cases e), fun a' ha j p hj => ?_⟩, by simp; omega, fun p hp => ?_⟩
    · cases ha
      have hjl : j < len' := by
        have := (List.getElem?_eq_some_iff.1 hj).1
        simpa using this
      have hp : p = (.slice (A j) (L j) (C j), ofInts ((Z j).take (L j))) := by
        have e : ((List.range len').map fun r => ((Value.slice (A r) (L r) (C r), ofInts ((Z r).take (L r))) : Value × List UInt8))[j]? = some (.slice (A j) (L j) (C j), ofInts ((Z j).take (L j))) := by simp [hjl]
        rw [e] at hj
        exact (Option.some.inj hj).symm
      rw [hp]
      exact ⟨(hr j (by omega)).1, (hrow j hjl).1⟩
    · obtain ⟨r, hr', rfl⟩ := List.mem_map.1 hp
      have := hrow r (List.mem_range.1 hr')
      rw [this.2.1]
      exact this.2.2
end Go.Proofs.YtejbookaflnpeabDoor
