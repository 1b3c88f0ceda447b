/- Each is done, and once: what came in, and how the hall is made. -/
import Derived.Test.YtkmhbbcppjckiaaMYB
import Derived.Test.YtkmhbbcppjckiaaMY2
import Derived.Test.YtkmhbbcppjckiaaMY4
import Derived.OpenShut
namespace Go.Proofs.Ytkmhbbcppjckiaa.Ma
open Go Go.RowKit Go.Proofs.Ytkmhbbcppjckiaa Go.ChangeShapes Go.WideShapes Go.ChangeAt Go.Deep
open Go.Proofs.Ytkmhbbcppjckiaa.Hp (i64wf K3 wf3)
open Go.Proofs.Ytkmhbbcppjckiaa.Qu
open Go.Proofs.Ytkmhbbcppjckiaa.Dk (Frm below_drewN)
set_option linter.unusedVariables false
set_option linter.unusedSimpArgs false
set_option maxRecDepth 100000
/-- A move of the script: three numbers in a row. -/
def tri (x : K3) : List Value := [.int .i64 x.1, .int .i64 x.2.1, .int .i64 x.2.2]
structure Tri (w : World) (ao : Option Addr) (L : List K3) : Prop where
  none : ao = none → L = []
  cell : ∀ ad, ao = some ad → ∀ (j : Nat) p, L[j]? = some p → ∀ (i : Nat) u, (tri p)[i]? = some u → w.cell? (ad.add (j * 3 + i)) = some u
  good : ∀ p ∈ L, i64wf p.1 ∧ i64wf p.2.1 ∧ i64wf p.2.2
theorem Tri.below {w w' : World} {ao : Option Addr} {L : List K3} {B : Nat} (h : Tri w ao L) (hb : Below B w w') (hB : w.heap.size ≤ B) : Tri w' ao L :=
  ⟨h.none, fun ad ha j p hp i u hu => by
    have hc := h.cell ad ha j p hp i u hu
    rw [hb.cell (Nat.lt_of_lt_of_le (World.block_lt_of_cell? w _ hc) hB)]
    exact hc, h.good⟩
theorem cI_int : Try.prog.cellsOf 3 = 1 := by kernel_rfl
theorem cI_3 : Try.prog.cellsOf 106 = 3 := by kernel_rfl
theorem trod_tri {H : Type} {enc : TypeId × Value → H} {W : World} {fuel : Nat} {cs : List Value} {x : DataW H × List MemPlace} (h : DataW.trod enc Try.prog W 0 (fun _ => true) true fuel 106 cs = some x) :
    ∃ p : K3, cs = tri p ∧ i64wf p.1 ∧ i64wf p.2.1 ∧ i64wf p.2.2 := by
  obtain ⟨xs, m, _, _, hl, hn, hf⟩ := DataW.trod_array Try.underlying106 h
  simp only [cI_int, cI_3] at hl hf
  match xs, hn with
  | [y0, y1, y2], _ =>
    obtain ⟨a, e0, _, w0⟩ := DataW.trod_int Try.underlying3 (hf 0 (by decide))
    obtain ⟨c, e1, _, w1⟩ := DataW.trod_int Try.underlying3 (hf 1 (by decide))
    obtain ⟨d, e2, _, w2⟩ := DataW.trod_int Try.underlying3 (hf 2 (by decide))
    refine ⟨(a, c, d), ?_, w0, w1, w2⟩
    match cs, hl with
    | [v0, v1, v2], _ =>
      simp at e0 e1 e2
      rw [e0, e1, e2]
      rfl
theorem open_i3s {H : Type} {enc : TypeId × Value → H} {W : World} {base : Nat} {v : Value} {d : DataW H} {p : List MemPlace} (hv : Value.okWide Try.prog W .any base 101 v) (h : DataW.Trod enc Try.prog W 0 (fun _ => true) true 101 v d p) : ∃ ao c L, v = .slice ao (List.length L) c ∧ Tri W ao L ∧ L.length ≤ maxLen := by
  obtain ⟨a0, len, cap, rfl⟩ := okWide_slice Try.underlying101 hv
  obtain ⟨fuel, hf⟩ := h
  rcases open_slice Try.underlying101 hf with ⟨hcs, hx⟩ | ⟨a, len', cap', m, n, D, Pl, hcs, _, hl, hm, hmm, hx, hr⟩
  · simp only [Value.cells] at hcs
    injection hcs with hcs
    rw [hcs]
    exact ⟨none, 0, [], rfl, ⟨fun _ => rfl, (by intro a e; cases e), (by intro p hp; cases hp)⟩, Nat.zero_le _⟩
  · simp only [Value.cells] at hcs
    injection hcs with hcs
    rw [hcs]
    simp only [if_true] at hmm
    have each : ∀ i, i < len' → ∃ p : K3, (∀ k u, (tri p)[k]? = some u → W.cell? (a.add (i * 3 + k)) = some u) ∧ (i64wf p.1 ∧ i64wf p.2.1 ∧ i64wf p.2.2) := by
      intro i hi
      obtain ⟨cs', h1, h2⟩ := hr i (by omega)
      rw [cI_3] at h1
      obtain ⟨p, rfl, hg⟩ := trod_tri h2
      refine ⟨p, fun k u hk => ?_, hg⟩
      obtain ⟨_, hlen, hcell⟩ := World.cells?_some h1
      have hk' : k < 3 := (List.getElem?_eq_some_iff.1 hk).1
      have := hcell k hk'
      rw [add_add] at this
      rw [this, hk]
    obtain ⟨q, hq⟩ := choose_lt each
    refine ⟨some a, cap', (List.range len').map q, by simp, ⟨(by intro e; cases e), fun a' ha j p hj k u hk => ?_, fun p hp => ?_⟩, by simp; omega⟩
    · cases ha
      have hjl : j < len' := by simpa using (List.getElem?_eq_some_iff.1 hj).1
      obtain rfl : q j = p := by simpa [hjl] using hj
      exact (hq j hjl).1 k u hk
    · obtain ⟨j, hj, rfl⟩ := List.mem_map.1 hp
      exact (hq j (List.mem_range.1 hj)).2
theorem triSize (p : K3) : (Try.prog.info? 106).map (·.size) = some (tri p).length := by
  show _ = some 3
  kernel_rfl
theorem tri_one (p : K3) : (tri p).toArray.all (·.oneCell') = true := by simp [tri, Value.oneCell']
theorem triSizeA (p : K3) : (Try.prog.info? 106).map (·.size) = some (tri p).toArray.size := by
  show _ = some 3
  kernel_rfl
/-- Somebody's boxes are turned. -/
theorem MX.frm {w wx w' : World} {b : Nat} {X T : Nat → Prop} {M : MM} (h : MX w b X M wx) (hF : Frm T wx w') (hT : ∀ q, q < wx.heap.size → T q → X q) (hX : ∀ q, X q → w.heap.size ≤ q) : MX w b X M w' := by
  obtain ⟨⟨hF0, T', hM, hT'⟩, hl⟩ := h
  refine ⟨⟨hF0.transT hF fun q hq h1 => ?_, T', hM.keep fun q hq hlt => hF.block q hlt fun e => (hT' q hq).2.2 (hT q hlt e), fun q hq => ⟨(hT' q hq).1, Nat.lt_of_lt_of_le (hT' q hq).2.1 hF.size, (hT' q hq).2.2⟩⟩, fun q hq => Nat.lt_of_lt_of_le (hl q hq) hF.size⟩
  have := hF0.size
  have := hX q (hT q (by omega) h1)
  omega
theorem mx_drop {w wx : World} {b : Nat} {X : Nat → Prop} {M : MM} (h : MX w b X M wx) (run : Int) (hE : M.E.length ≤ 1000) (hN : M.drN run ≤ 100000) : Calls Try.prog 37 #[.pointer (some ⟨b, 0, none⟩), .int .i64 run] wx fun e w' => e = .returned (.int .i64 (M.drN run : Int)) ∧ MX w b X (M.dr run) w' ∧ KX X wx w' := by
  obtain ⟨T', hM, hS⟩ := h.step
  exact (mt_drop hM run hE hN).mono fun e w' hh => ⟨hh.1, hS _ _ hh.2⟩
/-- The hall's row when it is made. -/
theorem hall_zero : Try.zeroCells105 = (Try.zeroCells70.toList ++ [Value.int .i64 0, Value.map none]).toArray := by kernel_rfl
theorem HX.new (w : World) {wm wb : World} (hm : wm = w.alloc (.map #[] 0)) {R : Array Value} (hb : wb = wm.alloc (.cells R 105)) (hR1 : ∀ i, i < 197 → R[i]? = Try.zeroCells70[i]?) (hR2 : ∀ i, 197 ≤ i → R[i]? = (hrow 0 w.heap.size)[i]?) : HX wb wm.heap.size w.heap.size (fun _ => False) M0 0 0 (fun _ => false) wb := by
  have hlt : w.heap.size < wm.heap.size := by rw [hm]; exact lt_of_rowK (heap_alloc_new w _)
  have hltb : wm.heap.size < wb.heap.size := by rw [hb]; exact lt_of_rowK (heap_alloc_new wm _)
  refine ⟨⟨fun q => q = wm.heap.size, ⟨_, _, _, _, _, MtAt.zero (R := R) (by rw [hb]; exact heap_alloc_new wm _) hR1 (by decide), fun k hk => rfl, (fun i hi => hR2 i (by omega)), (fun k hk q hq => by
    rcases hq with e | e | ⟨x, hx, _⟩
    · exact e
    · cases e
    · cases hx), fun q hq => by cases hq⟩, fun q hq => ⟨.inl hq, by omega, (fun h => h), by omega⟩⟩, Frm.refl _ _, fun q h => h.elim, ?_⟩
  have b1 : Below wm.heap.size wm wb := by rw [hb]; exact (Below.refl _ _).alloc (Nat.le_refl _) _
  have := IMap.made w
  rw [← hm] at this
  exact this.keep (b1.block _ hlt)
theorem HS.new (w : World) {wm wb : World} (hm : wm = w.alloc (.map #[] 0)) {R : Array Value} (hb : wb = wm.alloc (.cells R 105)) (hR1 : ∀ i, i < 197 → R[i]? = Try.zeroCells70[i]?) (hR2 : ∀ i, 197 ≤ i → R[i]? = (hrow 0 w.heap.size)[i]?) : HS wb wm.heap.size w.heap.size (fun _ => False) 0 0 M0 (fun _ => false) 0 wb :=
  ⟨⟨0, _, HX.new w hm hb hR1 hR2, rfl, fun _ => rfl⟩, HJ.zero, by decide, ⟨by decide, by decide⟩, by decide, by decide⟩
end Go.Proofs.Ytkmhbbcppjckiaa.Ma
