/- What the sum laws' walks share: rows that the call owns, sums held against each other. -/
import Derived.Test.YtejbookaflnpeabDoorKn
import Derived.Test.YtejbookaflnpeabDoorApp
import Derived.ChangeKeysEq
namespace Go.Proofs.YtejbookaflnpeabDoor
open Go Go.RowKit
set_option linter.unusedVariables false

theorem own_keep {w w' : World} {base : Nat} {e : TypeId} {size : Nat} {v : Value} {n : Nat} {xs : List Value} (h : w.ownsRow base e size v n xs) (hk : ∀ g, v.ownBlock = some g → w'.heap[g]? = w.heap[g]?) : w'.ownsRow base e size v n xs := by
  refine ⟨h.1, ?_⟩
  rcases h.2 with h2 | ⟨g, cap, cur, e, h1, hh, rest⟩
  · exact Or.inl h2
  · exact Or.inr ⟨g, cap, cur, e, h1, (hk g (by rw [e]; rfl)).trans hh, rest⟩
theorem own_sl {w : World} {base : Nat} {e : TypeId} {size : Nat} {v : Value} {n : Nat} {xs : List Value} (h : w.ownsRow base e size v n xs) : ∃ ao c, v = .slice ao n c := by
  rcases h.2 with ⟨rfl, rfl⟩ | ⟨g, cap, cur, rfl, _⟩
  · exact ⟨_, _, rfl⟩
  · exact ⟨_, _, rfl⟩
theorem Bs.ofOwn {w : World} {base : Nat} {v : Value} {xs : List UInt8} (h : w.ownsRow base 5 1 v xs.length (bvs xs)) : Bs w v xs := by
  have hc := fun g hg => World.ownsRow.cells h (g := g) hg
  rcases h.2 with ⟨rfl, hn⟩ | ⟨g, cap, cur, rfl, hb, hg, hnc, hcm, hcs, ht⟩
  · exact ⟨Option.none, 0, by rw [hn], by omega, fun _ => hn, by intro a e; cases e⟩
  · refine ⟨_, cap, rfl, hnc, (by intro e; cases e), fun a ha j u hu => ?_⟩
    cases ha
    exact hc g rfl j u hu
/-- A source for an append. -/
theorem Bs.app {w : World} {ao : Option Addr} {n c : Nat} {xs : List UInt8} (h : Bs w (.slice ao n c) xs) : Go.Src Tryd.prog 1 41 (.slice ao n c) n (bvs xs) w ∧ xs.length = n := by
  obtain ⟨ao', c', hv, hc, hno, hs⟩ := h
  obtain ⟨rfl, rfl, rfl⟩ : ao = ao' ∧ n = xs.length ∧ c = c' := by simpa using hv
  exact ⟨Src.any w (e' := 5) Tryd.underlying41 ao _ c (bvs xs) (by rw [bvs_length, Nat.mul_one]) hno hs (bvs_one xs), rfl⟩
theorem part_byte (l : List UInt8) (i : Nat) (h : i < l.length) (w : World) : (part 5 (bvs l).toArray (i * 1)).run Tryd.prog w = .ok (.int .u8 ((l.getD i 0).toNat : Int)) w := by
  obtain ⟨i0, hi0, hz0, hz1, hz2⟩ := info_parts Tryd.info5
  have hh := bvs_lit l i h
  have hs : i < (bvs l).toArray.size := by simpa [bvs] using h
  rw [Array.getElem?_eq_getElem hs] at hh
  have hv := Option.some.inj hh
  simp only [List.getElem_toArray] at hv
  have hsz : (sizeOf 5).run Tryd.prog w = .ok 1 w := by simp [sizeOf, typeInfo, hi0, hz1]
  have hl : i < (bvs l).length := by simpa using hs
  simp [part, go_sem, hi0, hz1, hl, hv, sizeOf, typeInfo]
theorem eq_bytes (l m : List UInt8) (d : Nat) : ∀ (is : List Nat) (w : World), (∀ i ∈ is, i < l.length ∧ i < m.length) →
    (Op.eqItems (d + 1) 5 1 (bvs l).toArray (bvs m).toArray is).run Tryd.prog w = .ok (is.all fun i => l.getD i 0 == m.getD i 0) w
  | [], w, _ => by simp [Op.eqItems]
  | i :: is, w, h => by
    have hi := h i (by simp)
    have ih := eq_bytes l m d is w (fun j hj => h j (by simp [hj]))
    have hu : Tryd.prog.underlying 5 = some (.int .u8) := Tryd.underlying5
    have he : ∀ a b : UInt8, (Op.equalIn (d + 1) 5 (.int .u8 (a.toNat : Int)) (.int .u8 (b.toNat : Int))).run Tryd.prog w = .ok (a == b) w := by
      intro a b
      have : (((a.toNat : Nat) : Int) == ((b.toNat : Nat) : Int)) = (a == b) := by
        rw [Bool.eq_iff_iff, beq_iff_eq, beq_iff_eq, Int.ofNat_inj, UInt8.toNat_inj]
      simp [Op.equalIn, run_underlying hu, this]
    simp only [Op.eqItems, Sem.run_bind, part_byte l i hi.1, part_byte m i hi.2, Result.andThen_ok, he]
    by_cases hb : (l.getD i 0 == m.getD i 0) = true
    · simp only [hb, Bool.not_true, Bool.false_eq_true, if_false, ih, List.all_cons, Bool.true_and]
    · simp only [Bool.not_eq_true] at hb
      simp only [hb, Bool.not_false, if_true, Sem.run_pure, List.all_cons, Bool.false_and]
set_option maxRecDepth 100000 in
theorem equal_sum (l m : List UInt8) (hl : l.length = 32) (hm : m.length = 32) (w : World) : (Op.equal 43 (.agg (bvs l).toArray) (.agg (bvs m).toArray)).run Tryd.prog w = .ok (decide (l = m)) w := by
  obtain ⟨i0, hi0, hz0, hz1, hz2⟩ := info_parts Tryd.info5
  have hc : Tryd.prog.cellsOf 5 = 1 := by kernel_rfl
  have h := run_equalIn_array (P := Tryd.prog) w 9999 (t := 43) (bvs l).toArray (bvs m).toArray (show Tryd.prog.underlying 43 = some (.array 32 5) by kernel_rfl) hi0
  have hd : Op.maxDepth = 9999 + 1 := rfl
  unfold Op.equal
  rw [hd, h, hc, eq_bytes l m 9998 _ w (fun i hi => by have := List.mem_range.1 hi; omega)]
  congr 1
  rw [Bool.eq_iff_iff]
  simp only [List.all_eq_true, List.mem_range, beq_iff_eq, decide_eq_true_eq]
  constructor
  · intro hh
    apply List.ext_getElem (by omega)
    intro i h1 h2
    have := hh i (by omega)
    simpa [List.getD, h1, h2] using this
  · rintro rfl i _; rfl
theorem neq_sum (l m : List UInt8) (hl : l.length = 32) (hm : m.length = 32) (w : World) : (binOp .neq 43 (.agg (bvs l).toArray) (.agg (bvs m).toArray)).run Tryd.prog w = .ok (.bool (!decide (l = m))) w := by
  simp [binOp, equal_sum l m hl hm]
theorem eql_sum (l m : List UInt8) (hl : l.length = 32) (hm : m.length = 32) (w : World) : (binOp .eql 43 (.agg (bvs l).toArray) (.agg (bvs m).toArray)).run Tryd.prog w = .ok (.bool (decide (l = m))) w := by
  simp [binOp, equal_sum l m hl hm]
end Go.Proofs.YtejbookaflnpeabDoor
