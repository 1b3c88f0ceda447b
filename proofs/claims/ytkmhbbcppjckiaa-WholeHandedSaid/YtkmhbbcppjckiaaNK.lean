/- A law's own queue: the calls, from the world behind the law's variables on. -/
import Derived.Test.YtkmhbbcppjckiaaK0H
namespace Go.Proofs.Ytkmhbbcppjckiaa.Qu
open Go Go.RowKit Go.Proofs.Ytkmhbbcppjckiaa
open Go.Proofs.Ytkmhbbcppjckiaa.Hp (K3 kv KLit wf3 i64wf kv_inj)
open Go.Proofs.Ytkmhbbcppjckiaa.Dk (Frm below_drewN Frm.of_below Frm.setCell Frm.refl Frm.drewN Frm.drew Frm.transT Frm.turned Frm.trans Frm.mono Frm.setRow Frm.thenBelow Frm.below)
set_option linter.unusedVariables false
set_option linter.unusedSimpArgs false
set_option maxRecDepth 100000
def TQ (b B q : Nat) : Prop := q = b ∨ B ≤ q
/-- Since w0 nothing but the queue at b has turned, and new blocks; it holds just these. -/
structure QL (w0 : World) (b : Nat) (W : List Tk) (wx : World) : Prop where
  q : QT wx (TQ b w0.heap.size) b W
  frm : Frm (TQ b w0.heap.size) w0 wx
variable {w0 wx w' : World} {b : Nat} {W : List Tk}
theorem QL.first {w : World} (hb : b = w.heap.size) (h : Below (b + 1) (w.alloc (.cells #[.pointer none, .pointer none, .map none] 29)) w0) (hs : (w.alloc (.cells #[.pointer none, .pointer none, .map none] 29)).heap.size ≤ w0.heap.size) : QL w0 b [] w0 := by
  subst hb
  refine ⟨((QT.new w).keep fun q hq _ => h.block q (by rw [hq]; omega)).mono fun q hq => .inl hq, Frm.refl _ _⟩
theorem QL.below (h : QL w0 b W wx) (hb : Below wx.heap.size wx w') : QL w0 b W w' := ⟨h.q.below hb, h.frm.thenBelow hb (Nat.le_refl _)⟩
theorem QL.step {V : List Tk} (h : QL w0 b W wx) (hp : QPost wx (TQ b w0.heap.size) b V w') : QL w0 b V w' := by
  obtain ⟨hF, T', hQ, hT⟩ := hp
  refine ⟨hQ.mono fun q hq => ?_, h.frm.trans hF⟩
  rcases (hT q hq).1 with h1 | h1
  · exact h1
  · exact .inr (Nat.le_trans h.frm.size h1)
theorem QL.block (h : QL w0 b W wx) {q : Nat} (hq : q < w0.heap.size) (hn : q ≠ b) : wx.heap[q]? = w0.heap[q]? := h.frm.block q hq (by
  rintro (e | e)
  · exact hn e
  · omega)
theorem QL.low {B : Nat} {w : World} (h : QL w0 b W wx) (h0 : Below B w w0) (hb : B ≤ b) (hB : B ≤ w.heap.size) : Below B w wx := by
  have hs := h0.size
  have h1 : Below B w0 wx := h.frm.below (fun q _ hq => by rcases hq with e | e <;> omega) (by omega)
  exact h0.trans h1
theorem ql_add (h : QL w0 b W wx) (k : K3) (hk : wf3 k) (now : Int) (hnow : i64wf now) : Calls Try.prog 14 #[.pointer (some ⟨b, 0, none⟩), .agg (kcs k).toArray, .int .i64 now] wx fun e w' => e = .returned (.int .i64 (addR W k)) ∧ QL w0 b (addW W k now) w' :=
  (qt_add h.q k hk now hnow).mono fun e w' hh => ⟨hh.1, h.step hh.2⟩
theorem ql_remove (h : QL w0 b W wx) (k : K3) (hk : wf3 k) : Calls Try.prog 17 #[.pointer (some ⟨b, 0, none⟩), .agg (kcs k).toArray] wx fun e w' => e = .returned (.bool ((keysT W).contains k)) ∧ QL w0 b (remW W k) w' :=
  (qt_remove h.q k hk).mono fun e w' hh => ⟨hh.1, h.step hh.2⟩
theorem ql_take_nil (h : QL w0 b [] wx) : Calls Try.prog 15 #[.pointer (some ⟨b, 0, none⟩)] wx fun e w' => e = .returned (.tuple #[.agg (kcs k0).toArray, .bool false]) ∧ QL w0 b [] w' :=
  (qt_take_nil h.q).mono fun e w' hh => ⟨hh.1, h.step hh.2⟩
theorem ql_take {x : Tk} (h : QL w0 b (x :: W) wx) : Calls Try.prog 15 #[.pointer (some ⟨b, 0, none⟩)] wx fun e w' => e = .returned (.tuple #[.agg (kcs x.1).toArray, .bool true]) ∧ QL w0 b W w' :=
  (qt_take h.q).mono fun e w' hh => ⟨hh.1, h.step hh.2⟩
theorem ql_drop (h : QL w0 b W wx) (run : Int) : Calls Try.prog 18 #[.pointer (some ⟨b, 0, none⟩), .int .i64 run] wx fun e w' => e = .returned (.int .i64 (cntW run W : Int)) ∧ QL w0 b (othW run W) w' :=
  (qt_drop h.q run).mono fun e w' hh => ⟨hh.1, h.step hh.2⟩
theorem ql_len (h : QL w0 b W wx) : Calls Try.prog 20 #[.pointer (some ⟨b, 0, none⟩)] wx fun e w' => e = .returned (.int .i64 (W.length : Int)) ∧ w' = wx := qt_len h.q
theorem ql_has (h : QL w0 b W wx) (k : K3) (hk : wf3 k) : Calls Try.prog 22 #[.pointer (some ⟨b, 0, none⟩), .agg (kcs k).toArray] wx fun e w' => e = .returned (.bool ((keysT W).contains k)) ∧ QL w0 b W w' ∧ Below wx.heap.size wx w' :=
  (qt_has h.q k hk).mono fun e w' hh => ⟨hh.1, h.below hh.2, hh.2⟩
theorem ql_since (h : QL w0 b W wx) (k : K3) (hk : wf3 k) {s : Int} (hs : (k, s) ∈ W) : Calls Try.prog 21 #[.pointer (some ⟨b, 0, none⟩), .agg (kcs k).toArray] wx fun e w' => e = .returned (.tuple #[.int .i64 s, .bool true]) ∧ QL w0 b W w' ∧ Below wx.heap.size wx w' :=
  (qt_since h.q k hk).mono fun e w' hh => by
    refine ⟨?_, h.below hh.2, hh.2⟩
    rcases hh.1 with ⟨hn, _⟩ | ⟨s', hs', he⟩
    · exact absurd (List.mem_map.2 ⟨_, hs, rfl⟩) hn
    · have hnd := h.q.nodup
      have : s = s' := by
        unfold keysT at hnd
        obtain ⟨i, hi, e1⟩ := List.getElem_of_mem hs
        obtain ⟨j, hj, e2⟩ := List.getElem_of_mem hs'
        have hij : i = j := by
          have h1 := (List.getElem_inj (i := i) (j := j) (h₀ := by simpa using hi) (h₁ := by simpa using hj) hnd).1
          apply h1
          simp [e1, e2]
        subst hij
        rw [e1] at e2
        exact congrArg Prod.snd e2
      rw [this]
      exact he
theorem ql_first {x : Tk} (h : QL w0 b (x :: W) wx) : Calls Try.prog 23 #[.pointer (some ⟨b, 0, none⟩)] wx fun e w' => e = .returned (.tuple #[.agg (kcs x.1).toArray, .int .i64 x.2, .bool true]) ∧ QL w0 b (x :: W) w' ∧ Below wx.heap.size wx w' :=
  (qt_first h.q).mono fun e w' hh => ⟨hh.1, h.below hh.2, hh.2⟩
theorem ql_first_nil (h : QL w0 b [] wx) : Calls Try.prog 23 #[.pointer (some ⟨b, 0, none⟩)] wx fun e w' => e = .returned (.tuple #[.agg (kcs k0).toArray, .int .i64 0, .bool false]) ∧ QL w0 b [] w' ∧ Below wx.heap.size wx w' :=
  (qt_first_nil h.q).mono fun e w' hh => ⟨hh.1, h.below hh.2, hh.2⟩
theorem ql_list (h : QL w0 b W wx) : Calls Try.prog 19 #[.pointer (some ⟨b, 0, none⟩)] wx fun e w' =>
    ∃ ao c, e = .returned (.slice ao W.length c) ∧ w'.ownsRow wx.heap.size 32 3 (.slice ao W.length c) W.length (kss (keysT W)) ∧ QL w0 b W w' ∧ Below wx.heap.size wx w' :=
  (qt_list h.q).mono fun e w' ⟨ao, c, h1, h2, h3⟩ => ⟨ao, c, h1, h2, h.below h3, h3⟩
end Go.Proofs.Ytkmhbbcppjckiaa.Qu
