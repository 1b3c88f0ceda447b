/- Again, Due; the head of the statements of policies. -/
import Derived.Test.YtogkjiiemflglaaG4
import Derived.Test.YtogkjiiemflglaaCq
namespace Go.Proofs.Ytogkjiiemflglaa
open Go Go.RowKit
set_option linter.unusedVariables false
set_option linter.unusedSimpArgs false
def agOk (a n now : Int) : Bool := wtOk a n && decide (0 ≤ now)
def agS (W now : Int) : Int := if 4611686018427387903 - now < W then 4611686018427387903 else now + W
def agV (a f k m n now : Int) : Int := if agOk a n now then agS (wtW f k m n) now else 0
theorem wtW_bound {f k m n : Int} (hf : 0 ≤ f) (hf' : f ≤ 63) (hk : 1 ≤ k) (hk' : k ≤ 7) (hm : 0 ≤ m) : 0 ≤ wtW f k m n ∧ wtW f k m n < 4611686018427387900 := by
  unfold wtW wtM
  have b := wtN_bound (m := m) hf hf' hk hk' (min (n - 1) 62).toNat
  by_cases g : m ≠ 0 ∧ m < wtN f k m (min (n - 1) 62).toNat
  · rw [if_pos g]; omega
  · rw [if_neg g]; exact b
/-- What five cells hold that were laid as a policy. -/
structure PolC (W : World) (g : Nat) (a f k m l : Int) : Prop where
  c0 : W.cell? ⟨g, 0, none⟩ = some (.int .i64 a)
  c1 : W.cell? ⟨g, 1, none⟩ = some (.int .i64 f)
  c2 : W.cell? ⟨g, 2, none⟩ = some (.int .i64 k)
  c3 : W.cell? ⟨g, 3, none⟩ = some (.int .i64 m)
  c4 : W.cell? ⟨g, 4, none⟩ = some (.int .i64 l)
abbrev polL (a f k m l : Int) : List Value := [.int .i64 a, .int .i64 f, .int .i64 k, .int .i64 m, .int .i64 l]
theorem polC {W : World} {g : Nat} {a f k m l : Int} (h : W.heap[g]? = some (.cells #[.int .i64 a, .int .i64 f, .int .i64 k, .int .i64 m, .int .i64 l] 23 (0, 0))) : PolC W g a f k m l :=
  ⟨by rw [cell_of_rowW W g 0 _ _ _ h]; rfl, by rw [cell_of_rowW W g 1 _ _ _ h]; rfl, by rw [cell_of_rowW W g 2 _ _ _ h]; rfl, by rw [cell_of_rowW W g 3 _ _ _ h]; rfl, by rw [cell_of_rowW W g 4 _ _ _ h]; rfl⟩
theorem polCB {W W' : World} {g : Nat} {a f k m l : Int} (h : W.heap[g]? = some (.cells #[.int .i64 a, .int .i64 f, .int .i64 k, .int .i64 m, .int .i64 l] 23 (0, 0))) (hb : Below W.heap.size W W') : PolC W' g a f k m l :=
  polC ((hb.block g (lt_of_rowW h)).trans h)
theorem polAll {W W' : World} {g : Nat} {a f k m l : Int} (h : W.heap[g]? = some (.cells #[.int .i64 a, .int .i64 f, .int .i64 k, .int .i64 m, .int .i64 l] 23 (0, 0))) (hb : Below W.heap.size W W') : ∀ (j : Nat) u, (polL a f k m l)[j]? = some u → W'.cell? ((⟨g, 0, none⟩ : Addr).add j) = some u := fun j u hj => by
  rw [Addr.add_mid, Nat.zero_add, cell_of_rowW W' g j _ _ _ ((hb.block g (lt_of_rowW h)).trans h)]
  simpa using hj
theorem polSizeL (a f k m l : Int) : (Try.prog.info? 23).map (·.size) = some (polL a f k m l).length := by
  show _ = some 5
  kernel_rfl
set_option maxHeartbeats 4000000 in
set_option maxRecDepth 100000 in
theorem again_any (a f k m l n now : Int) (hp : okP a f k m l = true) (hn : -9223372036854775808 ≤ n ∧ n ≤ 9223372036854775807) (hw : -9223372036854775808 ≤ now ∧ now ≤ 9223372036854775807) (w : World) : Calls Try.prog 14 #[pol a f k m l, .int .i64 n, .int .i64 now] w fun e w' => e = .returned (.tuple #[.int .i64 (agV a f k m n now), .bool (agOk a n now)]) ∧ Below w.heap.size w w' := by
  obtain ⟨h1, h2, h3, h4, h5, h6, h7, h8, h9, h10⟩ := (okP_iff a f k m l).mp hp
  have wb := wtW_bound (n := n) h3 h4 h5 h6 h7
  obtain ⟨w1, hw1⟩ : ∃ w1, w1 = w.alloc (.cells #[.int .i64 a, .int .i64 f, .int .i64 k, .int .i64 m, .int .i64 l] 23) := ⟨_, rfl⟩
  obtain ⟨g, hg⟩ : ∃ g, g = w.heap.size := ⟨_, rfl⟩
  have b1 : Below w.heap.size w w1 := by rw [hw1]; exact below_new _ _
  have nk : w1.heap[g]? = some (.cells #[.int .i64 a, .int .i64 f, .int .i64 k, .int .i64 m, .int .i64 l] 23 (0, 0)) := by rw [hw1, hg]; exact heap_alloc_new _ _
  have C := wait_any a f k m l n hp hn w1
  obtain ⟨c0, c1, c2, c3, c4⟩ := polC nk
  have HW1 := Lib.hid hw1
  have HG := Lib.hid hg
  have B1 := Lib.hid b1
  obtain ⟨T, hT⟩ : ∃ T, T = wtW f k m n := ⟨_, rfl⟩
  rw [← hT] at wb
  clear hw1 hg b1 nk hp hn h1 h2 h3 h4 h5 h6 h7 h8 h9 h10
  obtain ⟨wb0, wb1⟩ := wb
  obtain ⟨w0a, w0b⟩ := hw
  unfold agV agOk
  unfold wtV at C
  rw [← hT] at C ⊢
  clear hT
  cases ok : wtOk a n
  · rw [ok] at C
    have HC := Lib.hid C
    clear C
    simp only [Bool.false_and, if_false, Bool.false_eq_true]
    unfold pol at HC ⊢
    go_enter Try.func14, Try.ntmps14
    go_upto_region 1 with fail
    rw [← HW1.out, ← HG.out]
    go_wp2_with fail
    refine HC.out.mono ?_
    rintro e w2 ⟨rfl, hb2⟩
    have B2 := Lib.hid (B1.out.trans (hb2.mono B1.out.size))
    clear hb2
    by_cases g0 : now < 0
    · go_wp2_with fail
      go_ret2
      exact ⟨rfl, B2.out⟩
    · go_wp2_with fail
      go_ret2
      exact ⟨rfl, B2.out⟩
  · rw [ok] at C
    have HC := Lib.hid C
    clear C
    simp only [if_true, Bool.true_and] at HC ⊢
    unfold pol at HC ⊢
    by_cases g0 : 0 ≤ now
    · rw [show decide (0 ≤ now) = true by simp [g0], if_pos rfl]
      obtain ⟨R, hR⟩ : ∃ R, R = agS T now := ⟨_, rfl⟩
      rw [← hR]
      unfold agS at hR
      by_cases g1 : 4611686018427387903 - now < T
      · obtain rfl : R = 4611686018427387903 := by rw [hR, if_pos g1]
        clear hR
        go_enter Try.func14, Try.ntmps14
        go_upto_region 1 with fail
        rw [← HW1.out, ← HG.out]
        go_wp2_with fail
        refine HC.out.mono ?_
        rintro e w2 ⟨rfl, hb2⟩
        have B2 := Lib.hid (B1.out.trans (hb2.mono B1.out.size))
        clear hb2
        go_wp2_with fail
        go_ret2
        exact ⟨rfl, B2.out⟩
      · obtain rfl : R = now + T := by rw [hR, if_neg g1]
        clear hR
        have g2 : now + T ≤ 4611686018427387903 := by omega
        go_enter Try.func14, Try.ntmps14
        go_upto_region 1 with fail
        rw [← HW1.out, ← HG.out]
        go_wp2_with fail
        refine HC.out.mono ?_
        rintro e w2 ⟨rfl, hb2⟩
        have B2 := Lib.hid (B1.out.trans (hb2.mono B1.out.size))
        clear hb2
        go_wp2_with fail
        go_ret2
        exact ⟨rfl, B2.out⟩
    · rw [show decide (0 ≤ now) = false by simp [g0]]
      simp only [if_false, Bool.false_eq_true]
      go_enter Try.func14, Try.ntmps14
      go_upto_region 1 with fail
      rw [← HW1.out, ← HG.out]
      go_wp2_with fail
      refine HC.out.mono ?_
      rintro e w2 ⟨rfl, hb2⟩
      have B2 := Lib.hid (B1.out.trans (hb2.mono B1.out.size))
      clear hb2
      go_wp2_with fail
      go_ret2
      exact ⟨rfl, B2.out⟩
def duOk (l s : Int) : Bool := !(decide (l = 0) || decide (4611686018427387903 - s < l))
theorem due_any (a f k m l s : Int) (hp : okP a f k m l = true) (hs : 0 ≤ s) (hs' : s ≤ 9223372036854775807) (w : World) : Calls Try.prog 15 #[pol a f k m l, .int .i64 s] w fun e w' => e = .returned (.tuple #[.int .i64 (if duOk l s then s + l else 0), .bool (duOk l s)]) ∧ Below w.heap.size w w' := by
  obtain ⟨h1, h2, h3, h4, h5, h6, h7, h8, h9, h10⟩ := (okP_iff a f k m l).mp hp
  unfold pol
  by_cases g0 : l = 0
  · rw [show duOk l s = false by simp [duOk, g0]]
    subst g0
    go_enter Try.func15, Try.ntmps15
    go_wp2
    go_ret2
    exact ⟨rfl, below_new _ _⟩
  · by_cases g1 : 4611686018427387903 - s < l
    · rw [show duOk l s = false by simp [duOk, g1]]
      go_enter Try.func15, Try.ntmps15
      go_wp2
      go_ret2
      exact ⟨rfl, below_new _ _⟩
    · rw [show duOk l s = true by simp [duOk, g0]; omega]
      have g2 : s + l ≤ 4611686018427387903 := by omega
      go_enter Try.func15, Try.ntmps15
      go_wp2
      go_ret2
      exact ⟨rfl, below_new _ _⟩
end Go.Proofs.Ytogkjiiemflglaa
