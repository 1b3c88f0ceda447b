/- What disk.New makes. -/
import Derived.Test.YthcliaaoadfegaaDw
import Derived.OwnWalk
namespace Go.Proofs.Ythcliaaoadfegaa.Dk
open Go Go.RowKit
set_option linter.unusedVariables false
set_option linter.unusedSimpArgs false

theorem Try.infoSec : (Try.prog.info? 75).map (fun i => (i.zero, i.size, i.bytes)) = some (some (.agg (bvs zeros).toArray), 128, 128) := by kernel_rfl
def DS.new (n : Nat) : DS := ⟨List.replicate n zeros, fun _ => none, -1, false, 0, 0, n, []⟩
theorem bvs_zeros : bvs zeros = List.replicate 128 (.int .u8 0) := by simp [bvs, zeros, bv]
theorem flat_zeros : ∀ n : Nat, flat (List.replicate n zeros) = List.replicate (n * 128) (.int .u8 0)
  | 0 => rfl
  | n + 1 => by
    have ih := flat_zeros n
    unfold flat at ih ⊢
    rw [List.replicate_succ, List.map_cons, List.flatten_cons, ih, bvs_zeros, List.replicate_append_replicate]
    congr 1
    omega
theorem made_repl (k N : Nat) (hk : 0 < k) (v : Value) : (madeCells (List.replicate k v).toArray N).toList = List.replicate N v := by
  apply List.ext_getElem
  · simp [madeCells]
  · intro i h1 h2
    have : i % k < k := Nat.mod_lt _ hk
    simp [madeCells, getElem!_def, this]
theorem made_zeros (n : Nat) : (madeCells (bvs zeros).toArray (n * 128)).toList = flat (List.replicate n zeros) := by
  rw [flat_zeros, bvs_zeros]
  exact made_repl 128 _ (by decide) _
set_option maxRecDepth 100000 in
theorem new_any (n : Nat) (h1 : 1 ≤ n) (h2 : n ≤ 4096) (w : World) : Calls Try.prog 7 #[.int .i64 (n : Int)] w fun e w' => ∃ d g m, e = .returned (.tuple #[.pointer (some ⟨d, 0, none⟩), .int .i64 0]) ∧ DiskAt Try.prog w' d g m 0 (DS.new n) ∧ Below w.heap.size w w' ∧ w.heap.size ≤ d ∧ w.heap.size ≤ g ∧ w.heap.size ≤ m := by
  obtain ⟨i0, hi, hz0, hz1, hz2⟩ := info_parts Try.infoSec
  have e1 : ¬ (n : Int) < 1 := by omega
  have e2 : ¬ (4096 : Int) < (n : Int) := by omega
  have hmm := @run_makeMap Try.prog
  go_enter Try.func7, Try.ntmps7
  go_wp2_with (at_make; refine wpList_make_full _ rfl _ _ 50 rfl 0 75 i0 _ 128 Try.underlying50 hi hz0 hz1 _ _ _ _ n rfl rfl rfl rfl (by rw [hz2]; omega) (by unfold maxLen; omega) (by omega) ?_)
  intro w1 hown hgrow
  go_wp2_with fail
  go_ret2
  have hs := hgrow.size
  rcases hown.2 with ⟨e, _⟩ | ⟨g, cap, cur, e, _, hb, hc1, hc2, hc3, hc4⟩
  · cases e
  · injection e with e3 e4 e5
    cases e3
    subst e5
    have hcur : cur = (flat (List.replicate n zeros)).toArray := by
      rw [← made_zeros, ← hc4, List.take_of_length_le (by simp [hc3])]
    subst hcur
    have hlt : w.heap.size < w1.heap.size := lt_of_row hb
    have b1 : Below w.heap.size w w1 := (Frm.refl (fun _ => False) w).grown hgrow (by intro j e; cases e) |>.below (fun _ _ h => h.elim) (Nat.le_refl _)
    refine ⟨_, w.heap.size, w1.heap.size, rfl, ⟨?_, ?_, ?_, ?_, by omega, by simpa [DS.new] using h2, show wfi (-1) from (by unfold wfi; decide), show wfi 0 from (by unfold wfi; decide), show wfi 0 from (by unfold wfi; decide)⟩, (b1.alloc (by omega) _).alloc (by simp; omega) _, by omega, Nat.le_refl _, by omega⟩
    · have := heap_alloc_new (w1.alloc (.map #[] 0)) (.cells #[.int .i64 0, .int .i64 0, .slice (some ⟨w.heap.size, 0, none⟩) n n, .map (some w1.heap.size), .int .i64 (-1), .bool false] 53)
      simpa [DS.new] using this
    · have := (Below.heap_alloc (w1.alloc (.map #[] 0)) (.cells #[.int .i64 0, .int .i64 0, .slice (some ⟨w.heap.size, 0, none⟩) n n, .map (some w1.heap.size), .int .i64 (-1), .bool false] 53) w.heap.size (by simp; omega)).trans ((Below.heap_alloc w1 (.map #[] 0) w.heap.size hlt).trans hb)
      rw [← List.append_nil (flat (List.replicate n zeros))] at this
      exact this
    · exact (MapIs.made w1).alloc _
    · intro b hb
      rw [List.eq_of_mem_replicate hb]
      exact zeros_length
end Go.Proofs.Ythcliaaoadfegaa.Dk
