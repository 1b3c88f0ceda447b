/- A slice of operations (foliotlaw07.Op) that came in; what Read refuses. -/
import Derived.Test.YtllnaocnojhlkaaVd
import Derived.Test.YtllnaocnojhlkaaDj
namespace Go.Proofs.Ytllnaocnojhlkaa.Dk
open Go Go.RowKit Go.ChangeShapes Go.WideShapes Go.ChangeAt Go.Deep
set_option linter.unusedVariables false
set_option linter.unusedSimpArgs false

/-- What an operation holds. -/
structure ROpD where
  kind : Int
  head : Int
  at_ : Int
  n : Int
  often : Int
  ao : Option Addr
  cap : Nat
  data : List UInt8
instance : Inhabited ROpD := ⟨⟨0, 0, 0, 0, 0, none, 0, []⟩⟩
def ROpD.cells (p : ROpD) : List Value := [.int .i64 p.kind, .int .i64 p.head, .int .i64 p.at_, .int .i64 p.n, .int .i64 p.often, .slice p.ao p.data.length p.cap]
structure ROpD.Good (w : World) (p : ROpD) : Prop where
  kind : wfi p.kind
  head : wfi p.head
  at_ : wfi p.at_
  n : wfi p.n
  often : wfi p.often
  data : Sl w (.slice p.ao p.data.length p.cap) p.data
  len : p.data.length ≤ 9223372036854775807
/-- The slice: its cells, and each operation good. -/
def ROps (w : World) (v : Value) (L : List ROpD) : Prop :=
  ∃ ao c, v = .slice ao L.length c ∧ (ao = none → L = []) ∧ (∀ a, ao = some a → ∀ j p, L[j]? = some p → ∀ i u, p.cells[i]? = some u → w.cell? (a.add (j * 6 + i)) = some u) ∧ ∀ p ∈ L, p.Good w
theorem ROpD.cells_length (p : ROpD) : p.cells.length = 6 := rfl
theorem ROpD.Good.below {w w' : World} {p : ROpD} {B : Nat} (h : p.Good w) (hb : Below B w w') (hs : w.heap.size ≤ B) : p.Good w' := ⟨h.kind, h.head, h.at_, h.n, h.often, h.data.below' hb hs, h.len⟩
theorem ROps.below {w w' : World} {v : Value} {L : List ROpD} {B : Nat} (h : ROps w v L) (hb : Below B w w') (hs : w.heap.size ≤ B) : ROps w' v L := by
  obtain ⟨ao, c, rfl, hno, hc, hg⟩ := h
  refine ⟨ao, c, rfl, hno, fun a ha j p hp i u hu => ?_, fun p hp => (hg p hp).below hb hs⟩
  have := hc a ha j p hp i u hu
  rw [hb.cell (Nat.lt_of_lt_of_le (World.block_lt_of_cell? w _ this) hs)]
  exact this
section
variable {H : Type} {enc : TypeId × Value → H} {P : Program} {w : World} {base : Nat} {spare : Nat → Bool} {held : Bool}
theorem trod_struct6 {t : TypeId} {f0 f1 f2 f3 f4 f5 : Field} {fuel : Nat} {cs : List Value} {x : DataW H × List MemPlace} (ht : P.underlying t = some (.struct #[f0, f1, f2, f3, f4, f5])) (h : DataW.trod enc P w base spare held fuel t cs = some x) :
    ∃ y0 y1 y2 y3 y4 y5 n, cs.length = P.cellsOf t ∧ DataW.trod enc P w base spare held n f0.type ((cs.drop f0.offset).take (P.cellsOf f0.type)) = some y0 ∧
      DataW.trod enc P w base spare held n f1.type ((cs.drop f1.offset).take (P.cellsOf f1.type)) = some y1 ∧ DataW.trod enc P w base spare held n f2.type ((cs.drop f2.offset).take (P.cellsOf f2.type)) = some y2 ∧
      DataW.trod enc P w base spare held n f3.type ((cs.drop f3.offset).take (P.cellsOf f3.type)) = some y3 ∧ DataW.trod enc P w base spare held n f4.type ((cs.drop f4.offset).take (P.cellsOf f4.type)) = some y4 ∧
      DataW.trod enc P w base spare held n f5.type ((cs.drop f5.offset).take (P.cellsOf f5.type)) = some y5 := by
  obtain ⟨xs, n, _, rfl, hl, hlen, hf⟩ := DataW.trod_struct ht h
  match xs, hlen with
  | [y0, y1, y2, y3, y4, y5], _ => exact ⟨y0, y1, y2, y3, y4, y5, n, hl, by simpa using hf 0 f0 rfl, by simpa using hf 1 f1 rfl, by simpa using hf 2 f2 rfl, by simpa using hf 3 f3 rfl, by simpa using hf 4 f4 rfl, by simpa using hf 5 f5 rfl⟩
end
theorem cP_rop : Try.prog.cellsOf 34 = 6 := by kernel_rfl
set_option maxRecDepth 100000 in
/-- One operation, off its cells. -/
theorem trod_rop {H : Type} {enc : TypeId × Value → H} {W : World} {fuel : Nat} {cs : List Value} {x : DataW H × List MemPlace} (h : DataW.trod enc Try.prog W 0 (fun _ => true) true fuel 34 cs = some x) :
    ∃ p : ROpD, cs = p.cells ∧ p.Good W := by
  obtain ⟨y0, y1, y2, y3, y4, y5, n, hl, h0, h1, h2, h3, h4, h5⟩ := trod_struct6 Try.underlying34 h
  simp only [cP_rop, cP_int, cP_bytes] at hl h0 h1 h2 h3 h4 h5
  obtain ⟨k, e0, _, w0⟩ := DataW.trod_int Try.underlying3 h0
  obtain ⟨a, e1, _, w1⟩ := DataW.trod_int Try.underlying3 h1
  obtain ⟨b, e2, _, w2⟩ := DataW.trod_int Try.underlying3 h2
  obtain ⟨x8, e3, _, w3⟩ := DataW.trod_int Try.underlying3 h3
  obtain ⟨raw, e4, _, w4⟩ := DataW.trod_int Try.underlying3 h4
  obtain ⟨ao, c, xs, e5, s5, l5, m5⟩ := trod_bytes h5
  refine ⟨⟨k, a, b, x8, raw, ao, c, xs⟩, ?_, ⟨w0, w1, w2, w3, w4, s5, by show xs.length ≤ _; omega⟩⟩
  have g0 := list_nth_one e0
  have g1 := list_nth_one e1
  have g2 := list_nth_one e2
  have g3 := list_nth_one e3
  have g4 := list_nth_one e4
  have g5 := list_nth_one e5
  match cs, hl with
  | [v0, v1, v2, v3, v4, v5], hl =>
    simp at g0 g1 g2 g3 g4 g5
    rw [g0, g1, g2, g3, g4, g5]
    rfl
set_option maxRecDepth 100000 in
theorem open_rops {H : Type} {enc : TypeId × Value → H} {W : World} {base : Nat} {v : Value} {d : DataW H} {p : List MemPlace} (hv : Value.okWide Try.prog W .any base 22 v) (h : DataW.Trod enc Try.prog W 0 (fun _ => true) true 22 v d p) : ∃ ao c L, v = .slice ao L.length c ∧ ROps W (.slice ao L.length c) L := by
  obtain ⟨a0, len, cap, rfl⟩ := okWide_slice Try.underlying22 hv
  obtain ⟨fuel, hf⟩ := h
  rcases open_slice Try.underlying22 hf with ⟨hcs, hx⟩ | ⟨a, len', cap', m, n, D, Pl, hcs, _, hl, hm, hmm, hx, hr⟩
  · simp only [Value.cells] at hcs
    injection hcs with hcs
    rw [hcs]
    exact ⟨none, 0, [], rfl, ⟨none, 0, rfl, fun _ => rfl, (by intro a e; cases e), (by intro p hp; cases hp)⟩⟩
  · simp only [Value.cells] at hcs
    injection hcs with hcs
    rw [hcs]
    simp only [if_true] at hmm
    have each : ∀ i, i < len' → ∃ p : ROpD, (∀ k u, p.cells[k]? = some u → W.cell? (a.add (i * 6 + k)) = some u) ∧ p.Good W := by
      intro i hi
      obtain ⟨cs', h1, h2⟩ := hr i (by omega)
      rw [cP_rop] at h1
      obtain ⟨p, rfl, hg⟩ := trod_rop h2
      refine ⟨p, fun k u hk => ?_, hg⟩
      obtain ⟨_, hlen, hcell⟩ := World.cells?_some h1
      have hk' : k < 6 := by
        have := (List.getElem?_eq_some_iff.1 hk).1
        rwa [p.cells_length] at this
      have := hcell k hk'
      rw [add_add] at this
      rw [this, hk]
    obtain ⟨q, hq⟩ := choose_lt each
    refine ⟨some a, cap', (List.range len').map q, by simp, ⟨some a, cap', rfl, (by intro e; cases e), fun a' ha j p hj k u hk => ?_, fun p hp => ?_⟩⟩
    · cases ha
      have hjl : j < len' := by simpa using (List.getElem?_eq_some_iff.1 hj).1
      obtain rfl : q j = p := by simpa [hjl] using hj
      exact (hq j hjl).1 k u hk
    · obtain ⟨j, hj, rfl⟩ := List.mem_map.1 hp
      exact (hq j (List.mem_range.1 hj)).2
theorem Try.ropSize (p : ROpD) : (Try.prog.info? 34).map (·.size) = some p.cells.length := by rw [p.cells_length]; kernel_rfl
theorem ROpD.cells_one (p : ROpD) : p.cells.toArray.all (·.oneCell') = true := all_oneCell_toArray (by
  intro v hv
  simp only [ROpD.cells, List.mem_cons, List.not_mem_nil, or_false] at hv
  rcases hv with rfl | rfl | rfl | rfl | rfl | rfl <;> rfl)
theorem ROps.at {w : World} {ao : Option Addr} {c : Nat} {L : List ROpD} (h : ROps w (.slice ao L.length c) L) {j : Nat} (hj : j < L.length) : ∃ a, ao = some a ∧ (∀ i v, (L.getD j default).cells[i]? = some v → w.cell? ((a.add (j * 6)).add i) = some v) ∧ (L.getD j default).Good w := by
  obtain ⟨ao', c', e, hno, hc, hg⟩ := h
  injection e with e1 e2 e3
  subst e1 e3
  have hL : L.getD j default = L[j] := by simp [List.getD, hj]
  cases ao with
  | none => rw [hno rfl] at hj; simp at hj
  | some a =>
    refine ⟨a, rfl, fun i v hv => ?_, by rw [hL]; exact hg _ (List.getElem_mem hj)⟩
    rw [add_add]
    exact hc a rfl j _ (by rw [hL]; exact List.getElem?_eq_getElem hj) i v hv

variable {w : World} {r d k first count tail : Nat} {S : List UInt8} {t : TypeId}
/-- A read of what never was. -/
theorem rread_range (h : RingAt w r d k first count tail S t) (ht : tail ≤ 4000000000) (at_ : Nat) (h1 : at_ ≤ tail) (n : Int) (hw : wfi n) (hb : n < 0 ∨ ((tail - at_ : Nat) : Int) < n) :
    Calls Try.prog 20 #[.pointer (some ⟨r, 0, none⟩), .int .u64 (at_ : Int), .int .i64 n] w fun e w' => e = .returned (.tuple #[.slice none 0 0, .int .i64 1]) ∧ w = w' := by
  have q3 := h.q3
  have c2 : ¬ (tail : Int) < (at_ : Int) := by omega
  have bw := bounds_i64 hw
  obtain ⟨df, hdf⟩ : ∃ df, df = tail - at_ := ⟨_, rfl⟩
  have hwr : IntKind.u64.wrap ((tail : Int) - (at_ : Int)) = (df : Int) := by rw [IntKind.wrap_u64]; omega
  rw [← hdf] at hb
  by_cases c1 : n < 0
  · clear h hdf hb
    go_enter Try.func20, Try.ntmps20
    go_wp2_with fail
    go_ret2
    exact ⟨rfl, rfl⟩
  · have c3 : (df : Int) < n := by omega
    have hwn : IntKind.u64.wrap n = n := by rw [IntKind.wrap_u64]; omega
    clear h hdf hb
    go_enter Try.func20, Try.ntmps20
    go_wp2_with fail
    go_ret2
    exact ⟨rfl, rfl⟩
/-- A read of what is there no more. -/
theorem rread_missing (h : RingAt w r d k first count tail S t) (ht : tail ≤ 4000000000) (at_ n : Nat) (h1 : at_ + n ≤ tail) (h2 : thereN tail count < tail - at_) :
    Calls Try.prog 20 #[.pointer (some ⟨r, 0, none⟩), .int .u64 (at_ : Int), .int .i64 (n : Int)] w fun e w' => e = .returned (.tuple #[.slice none 0 0, .int .i64 4]) ∧ ∃ q, w' = w.drewN q := by
  have q3 := h.q3
  have TH := Lib.hid (fun n => there_any (w := w.drewN n) (h.keep rfl rfl))
  have hlb : thereN tail count ≤ 1000000 := by have := h.few; unfold thereN; split <;> omega
  generalize hth : thereN tail count = th at *
  have c1 : ¬ (n : Int) < 0 := by omega
  have c2 : ¬ (tail : Int) < (at_ : Int) := by omega
  obtain ⟨df, hdf⟩ : ∃ df, df = tail - at_ := ⟨_, rfl⟩
  have hwr : IntKind.u64.wrap ((tail : Int) - (at_ : Int)) = (df : Int) := by rw [IntKind.wrap_u64]; omega
  have hwt : IntKind.u64.wrap (th : Int) = (th : Int) := by rw [IntKind.wrap_u64]; omega
  have hwn : IntKind.u64.wrap (n : Int) = (n : Int) := by rw [IntKind.wrap_u64]; omega
  have c3 : ¬ (df : Int) < (n : Int) := by omega
  have c4 : (th : Int) < (df : Int) := by omega
  clear h hth hdf h2 h1
  go_enter Try.func20, Try.ntmps20
  go_wp2_with fail
  go_quiet (first | (go_at_call 53; refine Calls.quiet_of_same ((TH.out _).mono fun _ _ h => ⟨h.1, h.2.symm⟩)))
  go_wp2_with fail
  go_ret2
  exact ⟨rfl, _, rfl⟩
end Go.Proofs.Ytllnaocnojhlkaa.Dk
