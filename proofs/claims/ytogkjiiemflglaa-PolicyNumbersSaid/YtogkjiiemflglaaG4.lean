/- Of: the policy of a number. -/
import Derived.Test.YtogkjiiemflglaaG3
namespace Go.Proofs.Ytogkjiiemflglaa
open Go Go.RowKit
set_option linter.unusedVariables false
set_option linter.unusedSimpArgs false
def ofA (n : Int) : Int := if 15 < n % 16 + 1 then 0 else n % 16 + 1
def ofK (n : Int) : Int := if 7 < n / 1024 % 8 + 1 then 7 else n / 1024 % 8 + 1
def inR (n : Int) : Bool := decide (0 ≤ n) && decide (n < 2147483648)
def ofP (n : Int) : Value := if inR n then pol (ofA n) (n / 16 % 64) (ofK n) (n / 8192 % 512) (n / 4194304 % 512) else pol 1 0 1 0 0
theorem of_end (w : World) (o1 : Obj) (cs : Array Value) (o3 : Obj) : (((w.alloc o1).alloc (.cells cs 23)).alloc o3).heap[w.heap.size + 1]? = some (.cells cs 23 (0, 0)) := by
  have h : ((w.alloc o1).alloc (.cells cs 23)).heap[w.heap.size + 1]? = some (.cells cs 23 (0, 0)) := by
    have h := heap_alloc_new (w.alloc o1) (.cells cs 23)
    rwa [World.size_alloc] at h
  rw [← h]
  exact Below.heap_alloc _ _ _ (by simp)
theorem of_end2 (w : World) (o1 : Obj) (cs : Array Value) : ((w.alloc o1).alloc (.cells cs 23)).heap[w.heap.size + 1]? = some (.cells cs 23 (0, 0)) := by
  have h := heap_alloc_new (w.alloc o1) (.cells cs 23)
  rwa [World.size_alloc] at h
theorem below_two (w : World) (a b) : Below w.heap.size w ((w.alloc a).alloc b) := (below_new w a).alloc (by simp) b
theorem below_three (w : World) (a b c) : Below w.heap.size w (((w.alloc a).alloc b).alloc c) := (below_two w a b).alloc (by simp; omega) c
theorem polSize (a f k m l : Int) : (Try.prog.info? 23).map (·.size) = some (#[Value.int .i64 a, .int .i64 f, .int .i64 k, .int .i64 m, .int .i64 l] : Array Value).size := by
  show _ = some 5
  kernel_rfl
set_option maxHeartbeats 4000000 in
set_option maxRecDepth 100000 in
theorem of_bad (n : Int) (h : ¬(0 ≤ n ∧ n < 2147483648)) (w : World) : Calls Try.prog 12 #[.int .i64 n] w fun e w' => e = .returned (pol 1 0 1 0 0) ∧ Below w.heap.size w w' := by
  unfold pol
  have PS := Lib.hid (polSize 1 0 1 0 0)
  by_cases h1 : n < 0
  · go_enter Try.func12, Try.ntmps12
    go_wp2
    refine bodyPost_ret (results_cell_row rfl _ _ (w.heap.size + 1) 23 _ (0, 0) _ rfl (of_end2 _ _ _) Try.underlying23 rfl PS.out) rfl ?_
    exact ⟨rfl, below_two _ _ _⟩
  · have h2 : ¬ n < 2147483648 := by omega
    go_enter Try.func12, Try.ntmps12
    go_wp2
    refine bodyPost_ret (results_cell_row rfl _ _ (w.heap.size + 1) 23 _ (0, 0) _ rfl (of_end2 _ _ _) Try.underlying23 rfl PS.out) rfl ?_
    exact ⟨rfl, below_two _ _ _⟩
set_option maxHeartbeats 4000000 in
set_option maxRecDepth 100000 in
theorem of_good (n : Int) (h : 0 ≤ n) (h' : n < 2147483648) (w : World) : Calls Try.prog 12 #[.int .i64 n] w fun e w' => e = .returned (pol (ofA n) (n / 16 % 64) (ofK n) (n / 8192 % 512) (n / 4194304 % 512)) ∧ Below w.heap.size w w' := by
  have h1 : ¬ n < 0 := by omega
  have h2 : ¬ 2147483648 ≤ n := by omega
  have e1 : n / 16 / 64 = n / 1024 := by omega
  have e2 : n / 1024 / 8 = n / 8192 := by omega
  have e3 : n / 8192 / 512 = n / 4194304 := by omega
  have PS := Lib.hid polSize
  unfold pol
  by_cases g1 : 15 < n % 16 + 1
  · by_cases g2 : n / 16 / 64 % 8 + 1 ≤ 7
    · have a1 : ofA n = 0 := by rw [ofA, if_pos g1]
      have a2 : ofK n = n / 1024 % 8 + 1 := by rw [ofK, if_neg (by omega)]
      rw [a1, a2]
      rw [← e3, ← e2, ← e1]
      clear e1 e2 e3 a1 a2
      go_enter Try.func12, Try.ntmps12
      go_wp2_with go_in
      refine bodyPost_ret (results_cell_row rfl _ _ (w.heap.size + 1) 23 _ (0, 0) _ rfl (of_end _ _ _ _) Try.underlying23 rfl (PS.out _ _ _ _ _)) rfl ?_
      exact ⟨rfl, below_three _ _ _ _⟩
    · have a1 : ofA n = 0 := by rw [ofA, if_pos g1]
      have a2 : ofK n = 7 := by rw [ofK, if_pos (by omega)]
      rw [a1, a2]
      rw [← e3, ← e2, ← e1]
      clear e1 e2 e3 a1 a2
      go_enter Try.func12, Try.ntmps12
      go_wp2_with go_in
      refine bodyPost_ret (results_cell_row rfl _ _ (w.heap.size + 1) 23 _ (0, 0) _ rfl (of_end _ _ _ _) Try.underlying23 rfl (PS.out _ _ _ _ _)) rfl ?_
      exact ⟨rfl, below_three _ _ _ _⟩
  · by_cases g2 : n / 16 / 64 % 8 + 1 ≤ 7
    · have a1 : ofA n = n % 16 + 1 := by rw [ofA, if_neg g1]
      have a2 : ofK n = n / 1024 % 8 + 1 := by rw [ofK, if_neg (by omega)]
      rw [a1, a2]
      rw [← e3, ← e2, ← e1]
      clear e1 e2 e3 a1 a2
      go_enter Try.func12, Try.ntmps12
      go_wp2_with go_in
      refine bodyPost_ret (results_cell_row rfl _ _ (w.heap.size + 1) 23 _ (0, 0) _ rfl (of_end _ _ _ _) Try.underlying23 rfl (PS.out _ _ _ _ _)) rfl ?_
      exact ⟨rfl, below_three _ _ _ _⟩
    · have a1 : ofA n = n % 16 + 1 := by rw [ofA, if_neg g1]
      have a2 : ofK n = 7 := by rw [ofK, if_pos (by omega)]
      rw [a1, a2]
      rw [← e3, ← e2, ← e1]
      clear e1 e2 e3 a1 a2
      go_enter Try.func12, Try.ntmps12
      go_wp2_with go_in
      refine bodyPost_ret (results_cell_row rfl _ _ (w.heap.size + 1) 23 _ (0, 0) _ rfl (of_end _ _ _ _) Try.underlying23 rfl (PS.out _ _ _ _ _)) rfl ?_
      exact ⟨rfl, below_three _ _ _ _⟩
theorem of_any (n : Int) (w : World) : Calls Try.prog 12 #[.int .i64 n] w fun e w' => e = .returned (ofP n) ∧ Below w.heap.size w w' := by
  by_cases h : 0 ≤ n ∧ n < 2147483648
  · rw [ofP, if_pos (by simp [inR, h.1, h.2])]
    exact of_good n h.1 h.2 w
  · rw [ofP, if_neg (by simp only [inR, Bool.and_eq_true, decide_eq_true_eq]; exact h)]
    exact of_bad n h w
theorem of_ok {n : Int} (h : inR n = true) : okP (ofA n) (n / 16 % 64) (ofK n) (n / 8192 % 512) (n / 4194304 % 512) = true := by
  simp only [inR, Bool.and_eq_true, decide_eq_true_eq] at h
  rw [okP_iff]
  have a1 : 0 ≤ ofA n ∧ ofA n ≤ 15 := by unfold ofA; by_cases g : 15 < n % 16 + 1 <;> simp only [g, if_true, if_false] <;> omega
  have a2 : 1 ≤ ofK n ∧ ofK n ≤ 7 := by unfold ofK; by_cases g : 7 < n / 1024 % 8 + 1 <;> simp only [g, if_true, if_false] <;> omega
  omega
/-- The number's policy's number. -/
theorem nbr_of {n : Int} (h : inR n = true) : nbr (ofA n) (n / 16 % 64) (ofK n) (n / 8192 % 512) (n / 4194304 % 512) = if n / 1024 % 8 = 7 then n - 1024 else n := by
  simp only [inR, Bool.and_eq_true, decide_eq_true_eq] at h
  have a1 : (if ofA n = 0 then 15 else ofA n - 1) = n % 16 := by
    unfold ofA
    by_cases g : 15 < n % 16 + 1
    · simp only [g, if_true]; omega
    · simp only [g, if_false]; rw [if_neg (by omega)]; omega
  have a2 : ofK n - 1 = if n / 1024 % 8 = 7 then 6 else n / 1024 % 8 := by
    unfold ofK
    by_cases g : 7 < n / 1024 % 8 + 1
    · rw [if_pos g, if_pos (by omega)]; rfl
    · rw [if_neg g, if_neg (by omega)]; omega
  unfold nbr
  rw [a1, a2]
  by_cases g : n / 1024 % 8 = 7
  · rw [if_pos g, if_pos g]; omega
  · rw [if_neg g, if_neg g]; omega
/-- The policy of a policy's number. -/
theorem of_nbr {a f k m l : Int} (h : okP a f k m l = true) : ofP (nbr a f k m l) = pol a f k m l := by
  have ⟨h1, h2, h3, h4, h5, h6, h7, h8, h9, h10⟩ := (okP_iff a f k m l).mp h
  obtain ⟨t, ht⟩ : ∃ t, t = if a = 0 then 15 else a - 1 := ⟨_, rfl⟩
  have hn : nbr a f k m l = t + 16 * (f + 64 * (k - 1 + 8 * (m + 512 * l))) := by rw [nbr, ← ht]
  have ht1 : 0 ≤ t ∧ t ≤ 15 ∧ (t + 1 > 15 → a = 0) ∧ (t + 1 ≤ 15 → a = t + 1) := by
    rw [ht]
    by_cases g : a = 0
    · rw [if_pos g]; omega
    · rw [if_neg g]; omega
  obtain ⟨n, hnn⟩ : ∃ n, n = nbr a f k m l := ⟨_, rfl⟩
  rw [← hnn]
  rw [← hnn] at hn
  clear ht hnn
  have r1 : 0 ≤ n ∧ n < 2147483648 := by omega
  rw [ofP, if_pos (by simp only [inR, Bool.and_eq_true, decide_eq_true_eq]; exact r1)]
  have e1 : n % 16 = t := by omega
  have e2 : n / 16 % 64 = f := by omega
  have e3 : n / 1024 % 8 = k - 1 := by omega
  have e4 : n / 8192 % 512 = m := by omega
  have e5 : n / 4194304 % 512 = l := by omega
  have a1 : ofA n = a := by
    unfold ofA
    rw [e1]
    by_cases g : 15 < t + 1
    · rw [if_pos g]; exact (ht1.2.2.1 g).symm
    · rw [if_neg g]; exact (ht1.2.2.2 (by omega)).symm
  have a2 : ofK n = k := by unfold ofK; rw [e3, if_neg (by omega)]; omega
  rw [a1, a2, e2, e4, e5]
end Go.Proofs.Ytogkjiiemflglaa
