/- MarkDown's walk. -/
import Derived.Test.YtgbmkolpdnenlaaMq
import Derived.Test.YtgbmkolpdnenlaaDu
import Derived.Test.YtgbmkolpdnenlaaDc
namespace Go.Proofs.Ytgbmkolpdnenlaa.Dk
open Go Go.RowKit
set_option linter.unusedVariables false
set_option linter.unusedSimpArgs false
theorem seven {w : World} {g : Nat} {t : TypeId} {s a b c d e f : Nat} (h : w.heap[g]? = some (.cells (MkD.mk s [a, b, c, d, e, f]).cells.toArray t (0, 0))) :
    w.cell? ⟨g, 0, none⟩ = some (.int .u64 (s : Int)) ∧ w.cell? ⟨g, 1, none⟩ = some (.int .u64 (a : Int)) ∧ w.cell? ⟨g, 2, none⟩ = some (.int .u64 (b : Int)) ∧ w.cell? ⟨g, 3, none⟩ = some (.int .u64 (c : Int)) ∧ w.cell? ⟨g, 4, none⟩ = some (.int .u64 (d : Int)) ∧ w.cell? ⟨g, 5, none⟩ = some (.int .u64 (e : Int)) ∧ w.cell? ⟨g, 6, none⟩ = some (.int .u64 (f : Int)) := by
  have hc := fun j => cell_of_row w g j _ _ _ h
  refine ⟨hc 0, hc 1, hc 2, hc 3, hc 4, hc 5, hc 6⟩
theorem six_of {mk : MkD} (h : mk.Ok) : ∃ s a b c d e f, mk = ⟨s, [a, b, c, d, e, f]⟩ := by
  obtain ⟨s, W⟩ := mk
  have hl : W.length = 6 := h.len
  match W, hl with
  | [a, b, c, d, e, f], _ => exact ⟨s, a, b, c, d, e, f, rfl⟩
theorem calm_new (n : Nat) : Calm (DS.new n) := ⟨rfl, fun _ => rfl⟩
theorem nextSeq_le (x : DS) (first : Nat) : x.nextSeq first ≤ x.great first + 2 := by
  unfold DS.nextSeq
  split <;> omega
/-- What the second Put leaves, and what is there behind the crash. -/
theorem down_facts {x : DS} (h : Calm x) (hr : 2 ≤ x.s.length) {m1 m2 : MkD} (hl : x.lastMark 0 = m1) (hok : m1.Ok) (hp : 0 < m1.seq) (hm2 : m2.Ok) (hg : x.great 0 < m2.seq) (hf : 0 ≤ x.fuse) :
    ∃ (C : Int) (bm last : MkD) (y : DS), C = (x.mark 0 m2).1 ∧ bm = pick0 C m2 ∧ y = (x.mark 0 m2).2 ∧ bm.Ok ∧ last.Ok ∧ 0 < last.seq ∧ ((C = 0 ∧ 2 ≤ x.fuse ∧ last = bm) ∨ (C = 50 ∧ x.fuse < 2 ∧ last = m1)) ∧
      (∀ i l, wfi i → y.S i = some l → y.has i = true) ∧ Calm (y.crash [] (-1) 0).up ∧ (y.crash [] (-1) 0).up.lastMark 0 = last ∧ (y.crash [] (-1) 0).s.length = x.s.length ∧ (y.crash [] (-1) 0).up.s.length = x.s.length ∧ (y.crash [] (-1) 0).down = true := by
  obtain ⟨y, hy⟩ : ∃ y, y = (x.mark 0 m2).2 := ⟨_, rfl⟩
  by_cases hz : 2 ≤ x.fuse
  · have hfi := mark_fine h (first := 0) hm2 (by omega) (.inr hz)
    rw [← hy] at hfi
    obtain ⟨e1, e2, e3, _⟩ := hfi
    have hcu := crash_up (y := y) (e2.S _) 0
    have hls := last_set h hcu.1 (first := 0) hm2 (by omega) (hcu.2.1.trans e3) hg
    have hlen : y.s.length = x.s.length := by rw [e3, List.length_set]
    refine ⟨0, m2, m2, y, e1.symm, rfl, hy, hm2, hm2, by omega, .inl ⟨rfl, hz, rfl⟩, fun i l _ hi => (by rw [e2.S] at hi; cases hi), hcu.1, hls.1, by rw [hcu.2.2.2, hlen], by rw [hcu.2.1, hlen], hcu.2.2.1⟩
  · have hfi := mark_cut h (first := 0) hm2 (by omega) (by omega)
    rw [← hy] at hfi
    obtain ⟨e1, e2, e3, e4⟩ := hfi
    have h2 : m2.seq % 2 < 2 := Nat.mod_lt _ (by decide)
    have hS : y.S (-1) = none := by
      cases hs : y.S (-1) with
      | none => rfl
      | some l => have := (e4 _ _ hs).1; unfold MkD.at_ at this; omega
    have hcu := crash_up hS 0
    have hls : (y.crash [] (-1) 0).up.lastMark 0 = m1 := by
      rw [hcu.1.last (by rw [hcu.2.1, e3]; omega), hcu.2.1, e3, ← h.last (by omega)]
      exact hl
    refine ⟨50, noM, m1, y, e1.symm, rfl, hy, noM_ok, hok, hp, .inr ⟨rfl, by omega, rfl⟩, fun i l _ hi => ?_, hcu.1, hls, by rw [hcu.2.2.2, e3], by rw [hcu.2.1, e3], hcu.2.2.1⟩
    rw [(e4 _ _ hi).1]
    unfold DS.has MkD.at_
    rw [e3]
    simp only [Bool.and_eq_true, decide_eq_true_eq]
    omega
theorem new_great : (DS.new 2).great 0 = 0 := m0_great
end Go.Proofs.Ytgbmkolpdnenlaa.Dk
