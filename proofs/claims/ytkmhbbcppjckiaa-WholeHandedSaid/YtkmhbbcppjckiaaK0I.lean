/- Matching's small calls: next, Given, isWorker, waited. -/
import Derived.Test.YtkmhbbcppjckiaaK0D
import Derived.Laws.LoneSync
import Derived.Test.YtkmhbbcppjckiaaK0H
namespace Go.Proofs.Ytkmhbbcppjckiaa.Ma
open Go Go.RowKit Go.Proofs.Ytkmhbbcppjckiaa
set_option linter.unusedVariables false
set_option linter.unusedSimpArgs false
/-- Is there a worker of that number? -/
def isW (n : Int) : Bool := decide (1 ≤ n) && decide (n ≤ 64)
theorem isWorker_any (n : Int) (w : World) : Calls Try.prog 50 #[.int .i64 n] w fun e w' => e = .returned (.bool (isW n)) ∧ w' = w := by
  by_cases h1 : 1 ≤ n
  · obtain ⟨B, hB⟩ : ∃ B, B = isW n := ⟨_, rfl⟩
    have hd : decide (n ≤ 64) = B := by rw [hB]; simp [isW, h1]
    rw [← hB]
    clear hB
    go_enter Try.func50, Try.ntmps50
    go_wp2_with fail
    go_ret
    exact ⟨rfl, rfl⟩
  · have hB : isW n = false := by simp [isW, h1]
    rw [hB]
    go_enter Try.func50, Try.ntmps50
    go_wp2_with fail
    go_ret
    exact ⟨rfl, rfl⟩
/-- Is a tick behind another one by five or more? -/
def late (s n : Int) : Bool := decide (s ≤ n) && decide (5 ≤ n - s)
theorem given_any {w : World} {b o : Nat} {k : Int} (hc : w.cell? ⟨b, o, none⟩ = some (.int .u64 k)) : Calls Try.prog 49 #[.pointer (some ⟨b, o, none⟩)] w fun e w' => e = .returned (.int .u64 k) ∧ w' = w := by
  have hl := run_call_load (P := Try.prog) (f := 73) Try.func73 (by kernel_rfl) (by kernel_rfl) (by kernel_rfl) .u64 (by kernel_rfl) hc
  have C1 : Calls Try.prog 67 #[.pointer (some ⟨b, o, none⟩)] w fun e w' => e = .returned (.int .u64 k) ∧ w' = w := by
    go_enter Try.func67, Try.ntmps67
    go_wp2_with fail
    go_ret
    exact ⟨rfl, rfl⟩
  clear hl
  go_enter Try.func49, Try.ntmps49
  go_wp2_with (first | (with_reducible refine C1.mono ?_; rintro e w1 ⟨rfl, rfl⟩))
  go_ret
  exact ⟨rfl, rfl⟩
end Go.Proofs.Ytkmhbbcppjckiaa.Ma
/- Matching's small calls: next, waited. -/
namespace Go.Proofs.Ytkmhbbcppjckiaa.Ma
open Go Go.RowKit Go.Proofs.Ytkmhbbcppjckiaa
open Go.Proofs.Ytkmhbbcppjckiaa.Hp (i64wf)
set_option linter.unusedVariables false
set_option linter.unusedSimpArgs false
theorem next_any {w : World} {b o : Nat} {k : Int} (hc : w.cell? ⟨b, o, none⟩ = some (.int .u64 k)) (hz : w.frozen? ⟨b, o, none⟩ = false) (h0 : 0 ≤ k) (h1 : k < 9223372036854775807) : Calls Try.prog 53 #[.pointer (some ⟨b, o, none⟩)] w fun e w' => e = .returned (.int .u64 (k + 1)) ∧ w' = w.setCell ⟨b, o, none⟩ (.int .u64 (k + 1)) := by
  have hl := run_call_add (P := Try.prog) (f := 74) Try.func74 (by kernel_rfl) (by kernel_rfl) (by kernel_rfl) .u64 (by kernel_rfl) (y := 1) (s := k + 1) hc hz (by simp [go_sem]; rw [IntKind.wrap_u64]; omega)
  have C1 : Calls Try.prog 69 #[.pointer (some ⟨b, o, none⟩), .int .u64 1] w fun e w' => e = .returned (.int .u64 (k + 1)) ∧ w' = w.setCell ⟨b, o, none⟩ (.int .u64 (k + 1)) := by
    obtain ⟨w1, hw1⟩ : ∃ w1, w1 = w.setCell ⟨b, o, none⟩ (.int .u64 (k + 1)) := ⟨_, rfl⟩
    rw [← hw1] at hl ⊢
    have HW := Lib.hid hw1
    clear hw1
    go_enter Try.func69, Try.ntmps69
    go_wp2_with fail
    go_ret
    exact ⟨rfl, rfl⟩
  clear hl
  obtain ⟨w1, hw1⟩ : ∃ w1, w1 = w.setCell ⟨b, o, none⟩ (.int .u64 (k + 1)) := ⟨_, rfl⟩
  rw [← hw1] at C1 ⊢
  have HW := Lib.hid hw1
  clear hw1
  go_enter Try.func53, Try.ntmps53
  go_wp2_with (first | (with_reducible refine C1.mono ?_; rintro e w2 ⟨rfl, rfl⟩))
  go_ret
  exact ⟨rfl, rfl⟩
theorem waited_any (s n : Int) (hs : i64wf s) (hn : i64wf n) (w : World) : Calls Try.prog 71 #[.int .i64 s, .int .i64 n] w fun e w' => e = .returned (.bool (late s n)) ∧ w' = w := by
  by_cases h1 : s ≤ n
  · obtain ⟨B, hB⟩ : ∃ B, B = late s n := ⟨_, rfl⟩
    rw [← hB]
    have hx : decide (5 ≤ IntKind.u64.wrap (IntKind.u64.wrap n - IntKind.u64.wrap s)) = B := by
      have b1 := bounds_i64 hs
      have b2 := bounds_i64 hn
      have hw : IntKind.u64.wrap (IntKind.u64.wrap n - IntKind.u64.wrap s) = n - s := by
        rw [IntKind.wrap_u64, IntKind.wrap_u64, IntKind.wrap_u64]; omega
      rw [hw, hB]; simp [late, h1]
    clear hB
    go_enter Try.func71, Try.ntmps71
    go_wp2_with fail
    go_ret
    refine ⟨?_, rfl⟩
    rw [← hx]; rfl
  · have hB : late s n = false := by simp [late, h1]
    rw [hB]
    go_enter Try.func71, Try.ntmps71
    go_wp2_with fail
    go_ret
    exact ⟨rfl, rfl⟩
end Go.Proofs.Ytkmhbbcppjckiaa.Ma
/- Leases in memory; the questions that are asked of a lease (closures), each by a contract of its own. -/
namespace Go.Proofs.Ytkmhbbcppjckiaa.Ma
open Go Go.RowKit Go.Proofs.Ytkmhbbcppjckiaa
open Go.Proofs.Ytkmhbbcppjckiaa.Hp (i64wf K3 wf3)
open Go.Proofs.Ytkmhbbcppjckiaa.Qu (kcs)
open Go.Proofs.Ytkmhbbcppjckiaa.Dk (Frm below_drewN)
set_option linter.unusedVariables false
set_option linter.unusedSimpArgs false
/-- A task that somebody has. -/
structure Ls where
  tok : Int
  key : K3
  wk : Int
  til : Int
def Ls.cs (l : Ls) : List Value := [.int .u64 l.tok, .int .i64 l.key.1, .int .i64 l.key.2.1, .int .i64 l.key.2.2, .int .i64 l.wk, .int .i64 l.til]
theorem lsSize (l : Ls) : (Try.prog.info? 80).map (·.size) = some l.cs.length := by
  show _ = some 6
  kernel_rfl
theorem infoLs : (Try.prog.info? 80).map (fun i => (i.zero, i.size, i.bytes)) = some (some (.agg (Ls.cs ⟨0, (0, 0, 0), 0, 0⟩).toArray), 6, 48) := by kernel_rfl
theorem Ls.one (l : Ls) : ∀ u ∈ l.cs, u.oneCell' = true := by
  intro u hu
  simp only [Ls.cs, List.mem_cons, List.not_mem_nil, or_false] at hu
  rcases hu with rfl | rfl | rfl | rfl | rfl | rfl <;> rfl
theorem Ls.inj {a b : Ls} (h : a.cs = b.cs) : a = b := by
  obtain ⟨t, ⟨k1, k2, k3⟩, m, u⟩ := a
  obtain ⟨t', ⟨k1', k2', k3'⟩, m', u'⟩ := b
  simp [Ls.cs] at h
  obtain ⟨rfl, rfl, rfl, rfl, rfl, rfl⟩ := h
  rfl
/-- What a function value answers of a lease: it turns nothing that there was. -/
def Asks (g : Nat) (lb : Array Value) (p : Ls → Bool) (w : World) : Prop := ∀ W, Below w.heap.size w W → ∀ l : Ls, Calls Try.prog g (#[.agg l.cs.toArray] ++ lb) W fun e w' => e = .returned (.bool (p l)) ∧ Below W.heap.size W w'
theorem box_lease (w : World) (l : Ls) : ∀ j v, l.cs[j]? = some v → (w.alloc (.cells l.cs.toArray 80)).cell? ((⟨w.heap.size, 0, none⟩ : Addr).add j) = some v := fun j v hj => by
  rw [Addr.add_mid, Nat.zero_add, cell_of_row _ _ j _ _ _ (heap_alloc_new w _)]
  simpa using hj
theorem asks_tok {w : World} {b : Nat} {k : Int} (hc : w.heap[b]? = some (.cells #[.int .u64 k] 62 (0, 0))) : Asks 70 #[.pointer (some ⟨b, 0, none⟩)] (fun l => decide (l.tok = k)) w := by
  intro W hW l
  have hcW : W.cell? ⟨b, 0, none⟩ = some (.int .u64 k) := by
    have hb : b < w.heap.size := (Array.getElem?_eq_some_iff.1 hc).1
    exact cell_of_one ((hW.block b hb).trans hc)
  obtain ⟨w1, hw1⟩ : ∃ x, x = W.alloc (.cells l.cs.toArray 80) := ⟨_, rfl⟩
  obtain ⟨g, hg⟩ : ∃ g, g = W.heap.size := ⟨_, rfl⟩
  have b1 : Below W.heap.size W w1 := by rw [hw1]; exact (Below.refl _ _).alloc (Nat.le_refl _) _
  have KT : ∀ j v, l.cs[j]? = some v → w1.cell? ((⟨g, 0, none⟩ : Addr).add j) = some v := by rw [hw1, hg]; exact box_lease W l
  have c0 : w1.cell? ⟨g, 0, none⟩ = some (.int .u64 l.tok) := KT 0 _ rfl
  have cb : w1.cell? ⟨b, 0, none⟩ = some (.int .u64 k) := by
    have hb : b < w.heap.size := (Array.getElem?_eq_some_iff.1 hc).1
    exact cell_of_one ((b1.block b (by have := hW.size; omega)).trans ((hW.block b hb).trans hc))
  obtain ⟨A, hA⟩ : ∃ A, A = l.cs.toArray := ⟨_, rfl⟩
  rw [← hA] at hw1 ⊢
  obtain ⟨t, ht⟩ : ∃ t, t = l.tok := ⟨_, rfl⟩
  show Calls Try.prog 70 #[.agg A, .pointer (some ⟨b, 0, none⟩)] W fun e w' => e = .returned (.bool (decide (l.tok = k))) ∧ Below W.heap.size W w'
  rw [← ht] at c0 ⊢
  have HW := Lib.hid hw1
  have HG := Lib.hid hg
  have B1 := Lib.hid b1
  clear hcW KT hw1 hg b1 hc hW hA ht
  go_enter Try.func70, Try.ntmps70
  go_upto_region 1 with fail
  rw [← HW.out, ← HG.out]
  go_wp2_with fail
  go_ret
  exact ⟨rfl, B1.out⟩
theorem asks_til {w : World} {b : Nat} {k : Int} (hc : w.heap[b]? = some (.cells #[.int .i64 k] 2 (0, 0))) : Asks 60 #[.pointer (some ⟨b, 0, none⟩)] (fun l => decide (l.til ≤ k)) w := by
  intro W hW l
  have hcW : W.cell? ⟨b, 0, none⟩ = some (.int .i64 k) := by
    have hb : b < w.heap.size := (Array.getElem?_eq_some_iff.1 hc).1
    exact cell_of_one ((hW.block b hb).trans hc)
  obtain ⟨w1, hw1⟩ : ∃ x, x = W.alloc (.cells l.cs.toArray 80) := ⟨_, rfl⟩
  obtain ⟨g, hg⟩ : ∃ g, g = W.heap.size := ⟨_, rfl⟩
  have b1 : Below W.heap.size W w1 := by rw [hw1]; exact (Below.refl _ _).alloc (Nat.le_refl _) _
  have KT : ∀ j v, l.cs[j]? = some v → w1.cell? ((⟨g, 0, none⟩ : Addr).add j) = some v := by rw [hw1, hg]; exact box_lease W l
  have c0 : w1.cell? ⟨g, 5, none⟩ = some (.int .i64 l.til) := KT 5 _ rfl
  have cb : w1.cell? ⟨b, 0, none⟩ = some (.int .i64 k) := by
    have hb : b < w.heap.size := (Array.getElem?_eq_some_iff.1 hc).1
    exact cell_of_one ((b1.block b (by have := hW.size; omega)).trans ((hW.block b hb).trans hc))
  obtain ⟨A, hA⟩ : ∃ A, A = l.cs.toArray := ⟨_, rfl⟩
  rw [← hA] at hw1 ⊢
  obtain ⟨t, ht⟩ : ∃ t, t = l.til := ⟨_, rfl⟩
  show Calls Try.prog 60 #[.agg A, .pointer (some ⟨b, 0, none⟩)] W fun e w' => e = .returned (.bool (decide (l.til ≤ k))) ∧ Below W.heap.size W w'
  rw [← ht] at c0 ⊢
  have HW := Lib.hid hw1
  have HG := Lib.hid hg
  have B1 := Lib.hid b1
  clear hcW KT hw1 hg b1 hc hW hA ht
  go_enter Try.func60, Try.ntmps60
  go_upto_region 1 with fail
  rw [← HW.out, ← HG.out]
  go_wp2_with fail
  go_ret
  exact ⟨rfl, B1.out⟩
theorem asks_wk {w : World} {b : Nat} {k : Int} (hc : w.heap[b]? = some (.cells #[.int .i64 k] 3 (0, 0))) : Asks 61 #[.pointer (some ⟨b, 0, none⟩)] (fun l => decide (l.wk = k)) w := by
  intro W hW l
  have hcW : W.cell? ⟨b, 0, none⟩ = some (.int .i64 k) := by
    have hb : b < w.heap.size := (Array.getElem?_eq_some_iff.1 hc).1
    exact cell_of_one ((hW.block b hb).trans hc)
  obtain ⟨w1, hw1⟩ : ∃ x, x = W.alloc (.cells l.cs.toArray 80) := ⟨_, rfl⟩
  obtain ⟨g, hg⟩ : ∃ g, g = W.heap.size := ⟨_, rfl⟩
  have b1 : Below W.heap.size W w1 := by rw [hw1]; exact (Below.refl _ _).alloc (Nat.le_refl _) _
  have KT : ∀ j v, l.cs[j]? = some v → w1.cell? ((⟨g, 0, none⟩ : Addr).add j) = some v := by rw [hw1, hg]; exact box_lease W l
  have c0 : w1.cell? ⟨g, 4, none⟩ = some (.int .i64 l.wk) := KT 4 _ rfl
  have cb : w1.cell? ⟨b, 0, none⟩ = some (.int .i64 k) := by
    have hb : b < w.heap.size := (Array.getElem?_eq_some_iff.1 hc).1
    exact cell_of_one ((b1.block b (by have := hW.size; omega)).trans ((hW.block b hb).trans hc))
  obtain ⟨A, hA⟩ : ∃ A, A = l.cs.toArray := ⟨_, rfl⟩
  rw [← hA] at hw1 ⊢
  obtain ⟨t, ht⟩ : ∃ t, t = l.wk := ⟨_, rfl⟩
  show Calls Try.prog 61 #[.agg A, .pointer (some ⟨b, 0, none⟩)] W fun e w' => e = .returned (.bool (decide (l.wk = k))) ∧ Below W.heap.size W w'
  rw [← ht] at c0 ⊢
  have HW := Lib.hid hw1
  have HG := Lib.hid hg
  have B1 := Lib.hid b1
  clear hcW KT hw1 hg b1 hc hW hA ht
  go_enter Try.func61, Try.ntmps61
  go_upto_region 1 with fail
  rw [← HW.out, ← HG.out]
  go_wp2_with fail
  go_ret
  exact ⟨rfl, B1.out⟩
theorem asks_run {w : World} {b : Nat} {k : Int} (hc : w.heap[b]? = some (.cells #[.int .i64 k] 3 (0, 0))) : Asks 62 #[.pointer (some ⟨b, 0, none⟩)] (fun l => decide (l.key.1 = k)) w := by
  intro W hW l
  have hcW : W.cell? ⟨b, 0, none⟩ = some (.int .i64 k) := by
    have hb : b < w.heap.size := (Array.getElem?_eq_some_iff.1 hc).1
    exact cell_of_one ((hW.block b hb).trans hc)
  obtain ⟨w1, hw1⟩ : ∃ x, x = W.alloc (.cells l.cs.toArray 80) := ⟨_, rfl⟩
  obtain ⟨g, hg⟩ : ∃ g, g = W.heap.size := ⟨_, rfl⟩
  have b1 : Below W.heap.size W w1 := by rw [hw1]; exact (Below.refl _ _).alloc (Nat.le_refl _) _
  have KT : ∀ j v, l.cs[j]? = some v → w1.cell? ((⟨g, 0, none⟩ : Addr).add j) = some v := by rw [hw1, hg]; exact box_lease W l
  have c0 : w1.cell? ⟨g, 1, none⟩ = some (.int .i64 l.key.1) := KT 1 _ rfl
  have cb : w1.cell? ⟨b, 0, none⟩ = some (.int .i64 k) := by
    have hb : b < w.heap.size := (Array.getElem?_eq_some_iff.1 hc).1
    exact cell_of_one ((b1.block b (by have := hW.size; omega)).trans ((hW.block b hb).trans hc))
  obtain ⟨A, hA⟩ : ∃ A, A = l.cs.toArray := ⟨_, rfl⟩
  rw [← hA] at hw1 ⊢
  obtain ⟨t, ht⟩ : ∃ t, t = l.key.1 := ⟨_, rfl⟩
  show Calls Try.prog 62 #[.agg A, .pointer (some ⟨b, 0, none⟩)] W fun e w' => e = .returned (.bool (decide (l.key.1 = k))) ∧ Below W.heap.size W w'
  rw [← ht] at c0 ⊢
  have HW := Lib.hid hw1
  have HG := Lib.hid hg
  have B1 := Lib.hid b1
  clear hcW KT hw1 hg b1 hc hW hA ht
  go_enter Try.func62, Try.ntmps62
  go_upto_region 1 with fail
  rw [← HW.out, ← HG.out]
  go_wp2_with fail
  go_ret
  exact ⟨rfl, B1.out⟩
end Go.Proofs.Ytkmhbbcppjckiaa.Ma
/- Is a lease that of a task? And the function values that ask it. -/
namespace Go.Proofs.Ytkmhbbcppjckiaa.Ma
open Go Go.RowKit Go.Proofs.Ytkmhbbcppjckiaa
open Go.Proofs.Ytkmhbbcppjckiaa.Hp (i64wf K3 wf3)
open Go.Proofs.Ytkmhbbcppjckiaa.Qu (kcs tkSize wpList_teql)
open Go.Proofs.Ytkmhbbcppjckiaa.Dk (Frm below_drewN)
set_option linter.unusedVariables false
set_option linter.unusedSimpArgs false
theorem asks_task {w : World} {b : Nat} {k : K3} (hc : w.heap[b]? = some (.cells (kcs k).toArray 32 (0, 0))) : Asks 72 #[.pointer (some ⟨b, 0, none⟩)] (fun l => decide (l.key = k)) w := by
  intro W hW l
  have hb : b < w.heap.size := (Array.getElem?_eq_some_iff.1 hc).1
  obtain ⟨w1, hw1⟩ : ∃ x, x = W.alloc (.cells l.cs.toArray 80) := ⟨_, rfl⟩
  obtain ⟨g, hg⟩ : ∃ g, g = W.heap.size := ⟨_, rfl⟩
  have b1 : Below W.heap.size W w1 := by rw [hw1]; exact (Below.refl _ _).alloc (Nat.le_refl _) _
  have KT : ∀ j v, l.cs[j]? = some v → w1.cell? ((⟨g, 0, none⟩ : Addr).add j) = some v := by rw [hw1, hg]; exact box_lease W l
  have KX : ∀ j v, (kcs l.key)[j]? = some v → w1.cell? ((⟨g, 1, none⟩ : Addr).add j) = some v := fun j v hj => by
    have h := KT (1 + j) v (by
      match j, hj with
      | 0, hj => exact hj
      | 1, hj => exact hj
      | 2, hj => exact hj
      | j + 3, hj => simp [kcs] at hj)
    rw [Addr.add_mid] at h ⊢
    simpa using h
  have h1 : w1.heap[b]? = some (.cells (kcs k).toArray 32 (0, 0)) := (b1.block b (by have := hW.size; omega)).trans ((hW.block b hb).trans hc)
  have KB : ∀ j v, (kcs k)[j]? = some v → w1.cell? ((⟨b, 0, none⟩ : Addr).add j) = some v := fun j v hj => by
    rw [Addr.add_mid, Nat.zero_add, cell_of_row _ _ j _ _ _ h1]
    simpa using hj
  obtain ⟨A, hA⟩ : ∃ A, A = l.cs.toArray := ⟨_, rfl⟩
  rw [← hA] at hw1 ⊢
  obtain ⟨t, ht⟩ : ∃ t, t = l.key := ⟨_, rfl⟩
  show Calls Try.prog 72 #[.agg A, .pointer (some ⟨b, 0, none⟩)] W fun e w' => e = .returned (.bool (decide (l.key = k))) ∧ Below W.heap.size W w'
  rw [← ht] at KX ⊢
  have HW := Lib.hid hw1
  have HG := Lib.hid hg
  have B1 := Lib.hid b1
  clear KT hw1 hg b1 hc hW hA ht h1 hb
  go_enter Try.func72, Try.ntmps72
  go_upto_region 1 with fail
  rw [← HW.out, ← HG.out]
  go_wp2_with (first
    | (with_reducible show wpList _ _ _ _ _ _; refine wpList_load_allW rfl 32 (.tmp 4) rfl ⟨g, 1, none⟩ rfl (kcs t) _ KX Try.underlying32 rfl (tkSize _) ?_)
    | (with_reducible show wpList _ _ _ _ _ _; refine wpList_load_allW rfl 32 (.tmp 1) rfl ⟨b, 0, none⟩ rfl (kcs k) _ KB Try.underlying32 rfl (tkSize _) ?_)
    | (with_reducible show wpList _ _ _ _ _ _; refine wpList_teql (by kernel_rfl) (.tmp 5) (.tmp 6) _ rfl t k rfl rfl ?_))
  go_ret
  exact ⟨rfl, B1.out⟩
theorem byToken_any (k : Int) (w : World) : Calls Try.prog 56 #[.int .u64 k] w fun e w' => e = .returned (.func (.func 70) #[] #[.pointer (some ⟨w.heap.size, 0, none⟩)]) ∧ w' = w.alloc (.cells #[.int .u64 k] 62) := by
  go_enter Try.func56, Try.ntmps56
  go_wp2_with fail
  go_ret
  exact ⟨rfl, rfl⟩
theorem ofTask_any (k : K3) (w : World) : Calls Try.prog 64 #[.agg (kcs k).toArray] w fun e w' => e = .returned (.func (.func 72) #[] #[.pointer (some ⟨w.heap.size, 0, none⟩)]) ∧ w' = w.alloc (.cells (kcs k).toArray 32) := by
  go_enter Try.func64, Try.ntmps64
  go_wp2_with fail
  go_ret
  exact ⟨rfl, rfl⟩
end Go.Proofs.Ytkmhbbcppjckiaa.Ma
