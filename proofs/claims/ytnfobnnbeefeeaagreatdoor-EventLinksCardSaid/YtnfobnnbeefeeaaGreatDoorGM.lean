/- Same; Task, Closes, Outside. -/
import Derived.Test.YtnfobnnbeefeeaaGreatDoorGL
import Derived.Test.YtnfobnnbeefeeaaGreatDoorG3
namespace Go.Proofs.YtnfobnnbeefeeaaGreatDoor.Wi
open Go Go.RowKit
set_option linter.unusedVariables false
set_option linter.unusedSimpArgs false
theorem str_eqE (a b : List UInt8) : ((str a).toList == (str b).toList) = (a == b) := by
  rw [ByteArray.toList_eq, ByteArray.toList_eq]; simp [str]
set_option maxHeartbeats 16000000 in
set_option maxRecDepth 100000 in
theorem esame_any (x y : Ev) (hd : x.val.dpr 65536 = false) (N : Nat) (w : World) (hx : x.At N w) (hy : y.At N w) (hN : N ≤ w.heap.size) : Calls Tryz.prog 45 #[.agg x.cells.toArray, .agg y.cells.toArray] w fun e w' => e = .returned (.bool (x.same y)) ∧ Below w.heap.size w w' := by
  obtain ⟨R, hR⟩ : ∃ R, R = x.same y := ⟨_, rfl⟩
  rw [← hR]
  unfold Ev.same at hR
  obtain ⟨w1, hw1⟩ : ∃ bx, bx = w.alloc (.cells x.cells.toArray 28) := ⟨_, rfl⟩
  obtain ⟨g, hg⟩ : ∃ bx, bx = w.heap.size := ⟨_, rfl⟩
  have bw1 : Below w.heap.size w w1 := by rw [hw1]; exact (Below.refl _ _).alloc (Nat.le_refl _) _
  have nw1 : w1.heap[g]? = some (.cells x.cells.toArray 28 (0, 0)) := by rw [hw1, hg]; exact heap_alloc_new _ _
  have Kw1 := Lib.hid (rowE nw1)
  have Cw1 := Lib.hid (evC nw1)
  have Hw1 := Lib.hid hw1
  have Hg := Lib.hid hg
  have Bw1 := Lib.hid bw1
  have Nw1 := Lib.hid nw1
  clear hw1 hg bw1 nw1
  obtain ⟨w2, hw2⟩ : ∃ bx, bx = w1.alloc (.cells y.cells.toArray 28) := ⟨_, rfl⟩
  obtain ⟨g2, hg2⟩ : ∃ bx, bx = w1.heap.size := ⟨_, rfl⟩
  have bw2 : Below w1.heap.size w1 w2 := by rw [hw2]; exact (Below.refl _ _).alloc (Nat.le_refl _) _
  have nw2 : w2.heap[g2]? = some (.cells y.cells.toArray 28 (0, 0)) := by rw [hw2, hg2]; exact heap_alloc_new _ _
  have Kw2 := Lib.hid (rowE nw2)
  have Cw2 := Lib.hid (evC nw2)
  have Hw2 := Lib.hid hw2
  have Hg2 := Lib.hid hg2
  have Bw2 := Lib.hid bw2
  have Nw2 := Lib.hid nw2
  clear hw2 hg2 bw2 nw2
  have B2 := Lib.hid (Bw1.out.trans (Bw2.out.mono Bw1.out.size))
  have n12 := (Bw2.out.block g (lt_of_rowK Nw1.out)).trans Nw1.out
  have Cx := Lib.hid (evC n12)
  have VS := Lib.hid (vsame_any x.val y.val hd N w2 (hx.val.below (B2.out.mono hN)) (hy.val.below (B2.out.mono hN)) (Nat.le_trans hN B2.out.size))
  obtain ⟨vc, hvc⟩ : ∃ vc, vc = decide (x.val.cmp y.val = 0) := ⟨_, rfl⟩
  rw [← hvc] at VS hR
  clear n12 hvc hd hx hy
  have HG2b := Lib.hid (show g2 = w.heap.size + 1 by rw [Hg2.out, Hw1.out]; simp)
  have KX := Lib.hid Cx.out.cv
  have KY := Lib.hid Cw2.out.cv
  have c0 := Cx.out.c0
  have d0 := Cw2.out.c0
  obtain ⟨p0, hp0⟩ : ∃ p, p = x.id := ⟨_, rfl⟩
  obtain ⟨q0, hq0⟩ : ∃ p, p = y.id := ⟨_, rfl⟩
  rw [← hp0] at c0 hR
  rw [← hq0] at d0 hR
  clear hp0 hq0
  have c1 := Cx.out.c1
  have d1 := Cw2.out.c1
  obtain ⟨p1, hp1⟩ : ∃ p, p = x.time := ⟨_, rfl⟩
  obtain ⟨q1, hq1⟩ : ∃ p, p = y.time := ⟨_, rfl⟩
  rw [← hp1] at c1 hR
  rw [← hq1] at d1 hR
  clear hp1 hq1
  have c2 := Cx.out.c2
  have d2 := Cw2.out.c2
  obtain ⟨p2, hp2⟩ : ∃ p, p = x.kind := ⟨_, rfl⟩
  obtain ⟨q2, hq2⟩ : ∃ p, p = y.kind := ⟨_, rfl⟩
  rw [← hp2] at c2 hR
  rw [← hq2] at d2 hR
  clear hp2 hq2
  have c3 := Cx.out.c3
  have d3 := Cw2.out.c3
  obtain ⟨p3, hp3⟩ : ∃ p, p = x.a := ⟨_, rfl⟩
  obtain ⟨q3, hq3⟩ : ∃ p, p = y.a := ⟨_, rfl⟩
  rw [← hp3] at c3 hR
  rw [← hq3] at d3 hR
  clear hp3 hq3
  have c4 := Cx.out.c4
  have d4 := Cw2.out.c4
  obtain ⟨p4, hp4⟩ : ∃ p, p = x.b := ⟨_, rfl⟩
  obtain ⟨q4, hq4⟩ : ∃ p, p = y.b := ⟨_, rfl⟩
  rw [← hp4] at c4 hR
  rw [← hq4] at d4 hR
  clear hp4 hq4
  have c5 := Cx.out.c5
  have d5 := Cw2.out.c5
  have s5 := str_eqE x.name y.name
  obtain ⟨p5, hp5⟩ : ∃ p, p = str x.name := ⟨_, rfl⟩
  obtain ⟨q5, hq5⟩ : ∃ p, p = str y.name := ⟨_, rfl⟩
  obtain ⟨t5, ht5⟩ : ∃ p, p = (x.name == y.name) := ⟨_, rfl⟩
  rw [← hp5] at c5 s5
  rw [← hq5] at d5 s5
  rw [← ht5] at s5 hR
  clear hp5 hq5 ht5
  have c6 := Cx.out.c6
  have d6 := Cw2.out.c6
  have s6 := str_eqE x.text y.text
  obtain ⟨p6, hp6⟩ : ∃ p, p = str x.text := ⟨_, rfl⟩
  obtain ⟨q6, hq6⟩ : ∃ p, p = str y.text := ⟨_, rfl⟩
  obtain ⟨t6, ht6⟩ : ∃ p, p = (x.text == y.text) := ⟨_, rfl⟩
  rw [← hp6] at c6 s6
  rw [← hq6] at d6 s6
  rw [← ht6] at s6 hR
  clear hp6 hq6 ht6
  go_enter Tryz.func45, Tryz.ntmps45
  go_upto_region 1 with fail
  rw [← Hw1.out, ← HG2b.out, ← Hg.out, ← Hw2.out]
  by_cases h0 : (p0 == q0) = true
  case neg =>
    have h0' : (p0 == q0) = false := by simpa using h0
    obtain rfl : R = false := by rw [hR]; simp [h0']
    clear hR h0
    go_wp2_with fail
    go_ret
    exact ⟨rfl, B2.out⟩
  by_cases h1 : (p1 == q1) = true
  case neg =>
    have h1' : (p1 == q1) = false := by simpa using h1
    obtain rfl : R = false := by rw [hR]; simp [h0, h1']
    clear hR h1
    go_wp2_with fail
    go_ret
    exact ⟨rfl, B2.out⟩
  by_cases h2 : (p2 == q2) = true
  case neg =>
    have h2' : (p2 == q2) = false := by simpa using h2
    obtain rfl : R = false := by rw [hR]; simp [h0, h1, h2']
    clear hR h2
    go_wp2_with fail
    go_ret
    exact ⟨rfl, B2.out⟩
  by_cases h3 : (p3 == q3) = true
  case neg =>
    have h3' : (p3 == q3) = false := by simpa using h3
    obtain rfl : R = false := by rw [hR]; simp [h0, h1, h2, h3']
    clear hR h3
    go_wp2_with fail
    go_ret
    exact ⟨rfl, B2.out⟩
  by_cases h4 : (p4 == q4) = true
  case neg =>
    have h4' : (p4 == q4) = false := by simpa using h4
    obtain rfl : R = false := by rw [hR]; simp [h0, h1, h2, h3, h4']
    clear hR h4
    go_wp2_with fail
    go_ret
    exact ⟨rfl, B2.out⟩
  cases t5
  · obtain rfl : R = false := by rw [hR]; simp
    clear hR
    go_wp2_with fail
    go_ret
    exact ⟨rfl, B2.out⟩
  cases t6
  · obtain rfl : R = false := by rw [hR]; simp
    clear hR
    go_wp2_with fail
    go_ret
    exact ⟨rfl, B2.out⟩
  obtain rfl : R = vc := by rw [hR]; simp [h0, h1, h2, h3, h4]
  clear hR
  go_wp2_with (first | (with_reducible show wpList _ _ _ _ _ _; refine wpList_loadWanted (by with_unfolding_all rfl) 26 (.tmp 53) rfl ⟨g,7,none⟩ (by with_unfolding_all rfl) x.val.cells _ KX.out Tryz.underlying26 rfl (Tryz.valSize x.val) ?_) | (with_reducible show wpList _ _ _ _ _ _; refine wpList_loadWanted (by with_unfolding_all rfl) 26 (.tmp 55) rfl ⟨g2,7,none⟩ (by with_unfolding_all rfl) y.val.cells _ KY.out Tryz.underlying26 rfl (Tryz.valSize y.val) ?_))
  refine VS.out.mono ?_
  rintro e w3 ⟨rfl, hb3⟩
  have RL := Lib.hid (B2.out.trans (hb3.mono B2.out.size))
  clear hb3
  go_wp2_with fail
  go_ret
  exact ⟨rfl, RL.out⟩
def eClo (k : Int) : Bool := k == 16 || k == 17 || k == 18 || k == 19 || k == 20 || k == 21
def eOut (k : Int) : Bool := k == 1 || k == 14 || k == 15 || k == 19 || k == 8 || k == 9 || k == 10 || k == 12 || k == 20
set_option maxRecDepth 100000 in
theorem etask_any (x : Ev) (w : World) : Calls Tryz.prog 36 #[.agg x.cells.toArray] w fun e w' => e = .returned (.bool (eTask x.kind)) ∧ Below w.heap.size w w' := by
  obtain ⟨w1, hw1⟩ : ∃ bx, bx = w.alloc (.cells x.cells.toArray 28) := ⟨_, rfl⟩
  obtain ⟨g, hg⟩ : ∃ bx, bx = w.heap.size := ⟨_, rfl⟩
  have bw1 : Below w.heap.size w w1 := by rw [hw1]; exact (Below.refl _ _).alloc (Nat.le_refl _) _
  have nw1 : w1.heap[g]? = some (.cells x.cells.toArray 28 (0, 0)) := by rw [hw1, hg]; exact heap_alloc_new _ _
  have Kw1 := Lib.hid (rowE nw1)
  have Cw1 := Lib.hid (evC nw1)
  have Hw1 := Lib.hid hw1
  have Hg := Lib.hid hg
  have Bw1 := Lib.hid bw1
  have Nw1 := Lib.hid nw1
  clear hw1 hg bw1 nw1
  have c2 := Cw1.out.c2
  obtain ⟨k, hk⟩ : ∃ k, k = x.kind := ⟨_, rfl⟩
  rw [← hk] at c2 ⊢
  clear hk
  obtain ⟨R, hR⟩ : ∃ R, R = eTask k := ⟨_, rfl⟩
  rw [← hR]
  unfold eTask at hR
  go_enter Tryz.func36, Tryz.ntmps36
  go_upto_region 1 with fail
  rw [← Hw1.out, ← Hg.out]
  by_cases h0 : k = 2
  · subst h0
    obtain rfl : R = true := by rw [hR]; rfl
    clear hR
    go_wp2_with fail
    go_ret
    exact ⟨rfl, Bw1.out⟩
  by_cases h1 : k = 3
  · subst h1
    obtain rfl : R = true := by rw [hR]; rfl
    clear hR
    go_wp2_with fail
    go_ret
    exact ⟨rfl, Bw1.out⟩
  by_cases h2 : k = 5
  · subst h2
    obtain rfl : R = true := by rw [hR]; rfl
    clear hR
    go_wp2_with fail
    go_ret
    exact ⟨rfl, Bw1.out⟩
  by_cases h3 : k = 6
  · subst h3
    obtain rfl : R = true := by rw [hR]; rfl
    clear hR
    go_wp2_with fail
    go_ret
    exact ⟨rfl, Bw1.out⟩
  obtain rfl : R = false := by rw [hR]; simp [h0, h1, h2, h3]
  clear hR
  go_wp2_with fail
  go_ret
  exact ⟨rfl, Bw1.out⟩
set_option maxRecDepth 100000 in
theorem ecloses_any (x : Ev) (w : World) : Calls Tryz.prog 33 #[.agg x.cells.toArray] w fun e w' => e = .returned (.bool (eClo x.kind)) ∧ Below w.heap.size w w' := by
  obtain ⟨w1, hw1⟩ : ∃ bx, bx = w.alloc (.cells x.cells.toArray 28) := ⟨_, rfl⟩
  obtain ⟨g, hg⟩ : ∃ bx, bx = w.heap.size := ⟨_, rfl⟩
  have bw1 : Below w.heap.size w w1 := by rw [hw1]; exact (Below.refl _ _).alloc (Nat.le_refl _) _
  have nw1 : w1.heap[g]? = some (.cells x.cells.toArray 28 (0, 0)) := by rw [hw1, hg]; exact heap_alloc_new _ _
  have Kw1 := Lib.hid (rowE nw1)
  have Cw1 := Lib.hid (evC nw1)
  have Hw1 := Lib.hid hw1
  have Hg := Lib.hid hg
  have Bw1 := Lib.hid bw1
  have Nw1 := Lib.hid nw1
  clear hw1 hg bw1 nw1
  have c2 := Cw1.out.c2
  obtain ⟨k, hk⟩ : ∃ k, k = x.kind := ⟨_, rfl⟩
  rw [← hk] at c2 ⊢
  clear hk
  obtain ⟨R, hR⟩ : ∃ R, R = eClo k := ⟨_, rfl⟩
  rw [← hR]
  unfold eClo at hR
  go_enter Tryz.func33, Tryz.ntmps33
  go_upto_region 1 with fail
  rw [← Hw1.out, ← Hg.out]
  by_cases h0 : k = 16
  · subst h0
    obtain rfl : R = true := by rw [hR]; rfl
    clear hR
    go_wp2_with fail
    go_ret
    exact ⟨rfl, Bw1.out⟩
  by_cases h1 : k = 17
  · subst h1
    obtain rfl : R = true := by rw [hR]; rfl
    clear hR
    go_wp2_with fail
    go_ret
    exact ⟨rfl, Bw1.out⟩
  by_cases h2 : k = 18
  · subst h2
    obtain rfl : R = true := by rw [hR]; rfl
    clear hR
    go_wp2_with fail
    go_ret
    exact ⟨rfl, Bw1.out⟩
  by_cases h3 : k = 19
  · subst h3
    obtain rfl : R = true := by rw [hR]; rfl
    clear hR
    go_wp2_with fail
    go_ret
    exact ⟨rfl, Bw1.out⟩
  by_cases h4 : k = 20
  · subst h4
    obtain rfl : R = true := by rw [hR]; rfl
    clear hR
    go_wp2_with fail
    go_ret
    exact ⟨rfl, Bw1.out⟩
  by_cases h5 : k = 21
  · subst h5
    obtain rfl : R = true := by rw [hR]; rfl
    clear hR
    go_wp2_with fail
    go_ret
    exact ⟨rfl, Bw1.out⟩
  obtain rfl : R = false := by rw [hR]; simp [h0, h1, h2, h3, h4, h5]
  clear hR
  go_wp2_with fail
  go_ret
  exact ⟨rfl, Bw1.out⟩
set_option maxRecDepth 100000 in
theorem eoutside_any (x : Ev) (w : World) : Calls Tryz.prog 35 #[.agg x.cells.toArray] w fun e w' => e = .returned (.bool (eOut x.kind)) ∧ Below w.heap.size w w' := by
  obtain ⟨w1, hw1⟩ : ∃ bx, bx = w.alloc (.cells x.cells.toArray 28) := ⟨_, rfl⟩
  obtain ⟨g, hg⟩ : ∃ bx, bx = w.heap.size := ⟨_, rfl⟩
  have bw1 : Below w.heap.size w w1 := by rw [hw1]; exact (Below.refl _ _).alloc (Nat.le_refl _) _
  have nw1 : w1.heap[g]? = some (.cells x.cells.toArray 28 (0, 0)) := by rw [hw1, hg]; exact heap_alloc_new _ _
  have Kw1 := Lib.hid (rowE nw1)
  have Cw1 := Lib.hid (evC nw1)
  have Hw1 := Lib.hid hw1
  have Hg := Lib.hid hg
  have Bw1 := Lib.hid bw1
  have Nw1 := Lib.hid nw1
  clear hw1 hg bw1 nw1
  have c2 := Cw1.out.c2
  obtain ⟨k, hk⟩ : ∃ k, k = x.kind := ⟨_, rfl⟩
  rw [← hk] at c2 ⊢
  clear hk
  obtain ⟨R, hR⟩ : ∃ R, R = eOut k := ⟨_, rfl⟩
  rw [← hR]
  unfold eOut at hR
  go_enter Tryz.func35, Tryz.ntmps35
  go_upto_region 1 with fail
  rw [← Hw1.out, ← Hg.out]
  by_cases h0 : k = 1
  · subst h0
    obtain rfl : R = true := by rw [hR]; rfl
    clear hR
    go_wp2_with fail
    go_ret
    exact ⟨rfl, Bw1.out⟩
  by_cases h1 : k = 14
  · subst h1
    obtain rfl : R = true := by rw [hR]; rfl
    clear hR
    go_wp2_with fail
    go_ret
    exact ⟨rfl, Bw1.out⟩
  by_cases h2 : k = 15
  · subst h2
    obtain rfl : R = true := by rw [hR]; rfl
    clear hR
    go_wp2_with fail
    go_ret
    exact ⟨rfl, Bw1.out⟩
  by_cases h3 : k = 19
  · subst h3
    obtain rfl : R = true := by rw [hR]; rfl
    clear hR
    go_wp2_with fail
    go_ret
    exact ⟨rfl, Bw1.out⟩
  by_cases h4 : k = 8
  · subst h4
    obtain rfl : R = true := by rw [hR]; rfl
    clear hR
    go_wp2_with fail
    go_ret
    exact ⟨rfl, Bw1.out⟩
  by_cases h5 : k = 9
  · subst h5
    obtain rfl : R = true := by rw [hR]; rfl
    clear hR
    go_wp2_with fail
    go_ret
    exact ⟨rfl, Bw1.out⟩
  by_cases h6 : k = 10
  · subst h6
    obtain rfl : R = true := by rw [hR]; rfl
    clear hR
    go_wp2_with fail
    go_ret
    exact ⟨rfl, Bw1.out⟩
  by_cases h7 : k = 12
  · subst h7
    obtain rfl : R = true := by rw [hR]; rfl
    clear hR
    go_wp2_with fail
    go_ret
    exact ⟨rfl, Bw1.out⟩
  by_cases h8 : k = 20
  · subst h8
    obtain rfl : R = true := by rw [hR]; rfl
    clear hR
    go_wp2_with fail
    go_ret
    exact ⟨rfl, Bw1.out⟩
  obtain rfl : R = false := by rw [hR]; simp [h0, h1, h2, h3, h4, h5, h6, h7, h8]
  clear hR
  go_wp2_with fail
  go_ret
  exact ⟨rfl, Bw1.out⟩
end Go.Proofs.YtnfobnnbeefeeaaGreatDoor.Wi
/- Name, Kind; Link. -/
namespace Go.Proofs.YtnfobnnbeefeeaaGreatDoor.Wi
open Go Go.RowKit
set_option linter.unusedVariables false
set_option linter.unusedSimpArgs false
def ML (w : World) : Prop := ∃ m, w.cell? ⟨2, 0, none⟩ = some (.int .i64 m)
theorem ML.drew {w : World} (h : ML w) (n : Nat) : ML (w.drewN n) := h
theorem ename_any (k : Int) (hk : -9223372036854775808 ≤ k ∧ k ≤ 9223372036854775807) (w : World) (hm : ML w) : Calls Tryz.prog 99 #[.int .i64 k] w fun e w' => e = .returned (.string (str (eNm k))) ∧ ∃ n, w' = w.drewN n := by
  have AB := about_any k hk w hm
  obtain ⟨F, hF⟩ : ∃ F, F = str (eLt k) := ⟨_, rfl⟩
  obtain ⟨M, hM⟩ : ∃ M, M = str (eNm k) := ⟨_, rfl⟩
  rw [← hF, ← hM] at AB
  rw [← hM]
  clear hF hM hm
  go_enter Tryz.func99, Tryz.ntmps99
  go_wp2_with fail
  refine AB.mono ?_
  rintro e w2 ⟨rfl, n, rfl⟩
  go_wp2_with fail
  go_ret
  exact ⟨rfl, n, rfl⟩
/-- The kind of a name, looked for from k on. -/
def kFrom (s : List UInt8) : Nat → Int → Int
  | 0, _ => 0
  | n + 1, k => if eNm k = s then k else kFrom s n (k + 1)
def kOfN (s : List UInt8) : Int := kFrom s 21 1
def kiRel (w : World) (s : List UInt8) (i : Value) (wr : World) : Prop := ∃ (j : Nat) (n : Nat), i = .int .i64 ((j : Int) + 1) ∧ j ≤ 21 ∧ kOfN s = kFrom s (21 - j) ((j : Int) + 1) ∧ wr = w.drewN n
theorem drewN_add' (w : World) (a b : Nat) : ∃ n, (w.drewN a).drewN b = w.drewN n := ⟨a + b, by rw [World.drewN_drewN]⟩
set_option maxHeartbeats 4000000 in
set_option maxRecDepth 100000 in
theorem ekind_any (s : List UInt8) (w : World) (hm : ML w) : Calls Tryz.prog 47 #[.string (str s)] w fun e w' => e = .returned (.int .i64 (kOfN s)) ∧ ∃ n, w' = w.drewN n := by
  obtain ⟨R, hR⟩ : ∃ R, R = kOfN s := ⟨_, rfl⟩
  rw [← hR]
  have HR := Lib.hid hR
  obtain ⟨S, hS⟩ : ∃ S, S = str s := ⟨_, rfl⟩
  rw [← hS]
  have HS := Lib.hid hS
  have HM := Lib.hid hm
  clear hR hS hm
  go_enter Tryz.func47, Tryz.ntmps47
  go_wp2_with fail
  go_loopw [3] (fun i wr => kiRel w s i wr) (fun i _ => (22 - intOf i).toNat)
  case atStart => exact ⟨0, 0, rfl, by omega, rfl, rfl⟩
  case round =>
    obtain ⟨j, n, rfl, hj, hkf, rfl⟩ := hrel
    have HKF := Lib.hid hkf
    have KN := Lib.hid (known_any ((j : Int) + 1))
    clear hkf
    by_cases h21 : j < 21
    · have hk : eKn ((j : Int) + 1) = true := by simp [eKn]; omega
      rw [hk] at KN
      have b1 : (j : Int) + 1 ≤ 21 := by omega
      have NM := ename_any ((j : Int) + 1) (by omega) (w.drewN n) (HM.out.drew n)
      have se := str_eqE (eNm ((j : Int) + 1)) s
      have hst : kFrom s (21 - j) ((j : Int) + 1) = if eNm ((j : Int) + 1) = s then ((j : Int) + 1) else kFrom s (21 - (j + 1)) (((j + 1 : Nat) : Int) + 1) := by
        rw [show 21 - j = (21 - (j + 1)) + 1 by omega, kFrom]; rfl
      obtain ⟨M, hM⟩ : ∃ M, M = eNm ((j : Int) + 1) := ⟨_, rfl⟩
      obtain ⟨T, hT⟩ : ∃ T, T = str M := ⟨_, rfl⟩
      rw [← hM] at NM se hst
      rw [← hT] at NM se
      rw [← HS.out] at se
      have HST := Lib.hid hst
      have HNM := Lib.hid NM
      clear hM hT hst NM hk
      go_wp2_with fail
      refine (KN.out _).mono ?_
      rintro e wz ⟨rfl, hwz⟩
      subst hwz
      go_wp2_with fail
      refine HNM.out.mono ?_
      rintro e w3 ⟨rfl, n3, hw3⟩
      obtain ⟨n4, hn4⟩ := drewN_add' w n n3
      rw [hn4] at hw3
      subst hw3
      by_cases hs : M = s
      · have e1 : (M == s) = true := by simpa using hs
        rw [e1] at se
        obtain rfl : R = (j : Int) + 1 := by rw [HR.out, HKF.out, HST.out, if_pos hs]
        go_wp2_with fail
        go_ret
        exact ⟨rfl, n4, rfl⟩
      · have e1 : (M == s) = false := by simpa using hs
        rw [e1] at se
        have RL := Lib.hid (show kiRel w s (.int .i64 (((j + 1 : Nat) : Int) + 1)) (w.drewN n4) from ⟨j + 1, n4, rfl, h21, by rw [HKF.out, HST.out, if_neg hs], rfl⟩)
        go_wp2_with fail
        exact ⟨RL.out, by simp [intOf]; omega⟩
    · have hk : eKn ((j : Int) + 1) = false := by simp [eKn]; omega
      rw [hk] at KN
      obtain rfl : R = 0 := by rw [HR.out, HKF.out, show 21 - j = 0 by omega]; rfl
      have b1 : (j : Int) + 1 ≤ 22 := by omega
      go_wp2_with fail
      refine (KN.out _).mono ?_
      rintro e wz ⟨rfl, hwz⟩
      subst hwz
      go_wp2_with fail
      go_ret
      exact ⟨rfl, n, rfl⟩
end Go.Proofs.YtnfobnnbeefeeaaGreatDoor.Wi
