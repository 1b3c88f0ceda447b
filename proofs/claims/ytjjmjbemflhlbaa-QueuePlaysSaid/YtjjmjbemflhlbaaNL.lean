/- As many tasks as may be wait: QueueFull's walk. -/
import Derived.Test.YtjjmjbemflhlbaaNI
namespace Go.Proofs.Ytjjmjbemflhlbaa.Qu
open Go Go.RowKit Go.Proofs.Ytjjmjbemflhlbaa
open Go.Proofs.Ytjjmjbemflhlbaa.Hp (K3 kv KLit wf3 i64wf kv_inj)
open Go.Proofs.Ytjjmjbemflhlbaa.Dk (Frm below_drewN Frm.of_below Frm.setCell Frm.refl Frm.drewN Frm.drew Frm.transT Frm.turned Frm.trans Frm.mono Frm.setRow Frm.thenBelow Frm.below)
set_option linter.unusedVariables false
set_option linter.unusedSimpArgs false
set_option maxRecDepth 100000
set_option maxHeartbeats 4000000
theorem addR_new {W : List Tk} {k : K3} (h : k ∉ keysT W) (hl : W.length < 128) : addR W k = 0 := by
  unfold addR
  rw [if_neg (by simpa using h), if_neg (by omega)]
theorem addW_new {W : List Tk} {k : K3} {now : Int} (h : k ∉ keysT W) (hl : W.length < 128) : addW W k now = W ++ [(k, now)] := by
  unfold addW
  rw [if_pos (addR_new h hl)]
theorem addR_full {W : List Tk} {k : K3} (h : k ∉ keysT W) (hl : W.length = 128) : addR W k = 3 := by
  unfold addR
  rw [if_neg (by simpa using h), if_pos hl]
theorem addW_full {W : List Tk} {k : K3} {now : Int} (h : k ∉ keysT W) (hl : W.length = 128) : addW W k now = W := by
  unfold addW
  rw [if_neg (by rw [addR_full h hl]; decide)]
/-- So many tasks, the first one of this run. -/
def fl (a n : Nat) : List Tk := (List.range n).map fun j => ((((a + j : Nat) : Int), 0, 0), 0)
theorem fl_len (a n : Nat) : (fl a n).length = n := by simp [fl]
theorem fl_succ (a n : Nat) : fl a (n + 1) = fl a n ++ [((((a + n : Nat) : Int), 0, 0), 0)] := by simp [fl, List.range_succ]
theorem fl_get {a n i : Nat} (h : i < n) : (fl a n)[i]? = some ((((a + i : Nat) : Int), 0, 0), 0) := by simp [fl, h]
theorem fl_mem {a n : Nat} {k : K3} (h : k ∈ keysT (fl a n)) : ∃ j, j < n ∧ k = (((a + j : Nat) : Int), 0, 0) := by
  unfold keysT fl at h
  simp only [List.map_map, List.mem_map, List.mem_range] at h
  obtain ⟨j, hj, rfl⟩ := h
  exact ⟨j, hj, rfl⟩
/-- What waits when t were taken and i were added. -/
def st (t i : Nat) : List Tk := (fl 0 128).drop t ++ fl 1000 i
theorem st_succ (t i : Nat) : st t (i + 1) = st t i ++ [((((1000 + i : Nat) : Int), 0, 0), 0)] := by
  unfold st
  rw [show fl 1000 (i + 1) = fl 1000 i ++ [((((1000 + i : Nat) : Int), 0, 0), 0)] from fl_succ 1000 i, List.append_assoc]
theorem st_len {t i : Nat} (ht : t ≤ 128) : (st t i).length = 128 - t + i := by simp [st, fl_len]
theorem st_mem {t i : Nat} {k : K3} (h : k ∈ keysT (st t i)) : (∃ j : Nat, j < 128 ∧ k = ((j : Int), 0, 0)) ∨ ∃ j, j < i ∧ k = (((1000 + j : Nat) : Int), 0, 0) := by
  unfold st keysT at h
  rw [List.map_append, List.mem_append] at h
  rcases h with h | h
  · left
    rw [List.map_drop] at h
    obtain ⟨j, hj, e⟩ := fl_mem (List.mem_of_mem_drop h)
    exact ⟨j, hj, by rw [e]; simp⟩
  · right
    exact fl_mem h
theorem st_take {t : Nat} (ht : t < 128) : st t 0 = (((t : Int), 0, 0), 0) :: st (t + 1) 0 := by
  have hg := fl_get (a := 0) ht
  have hl : t < (fl 0 128).length := by rw [fl_len]; exact ht
  unfold st
  rw [List.drop_eq_getElem_cons hl, (List.getElem?_eq_some_iff.1 hg).2]
  simp
theorem st_new {t i : Nat} (h : i < t) (ht : t ≤ 128) : (((1000 + i : Nat) : Int), 0, 0) ∉ keysT (st t i) := by
  intro hm
  rcases st_mem hm with ⟨j, hj, e⟩ | ⟨j, hj, e⟩
  · have := congrArg Prod.fst e
    simp only at this
    omega
  · have := congrArg Prod.fst e
    simp only at this
    omega
theorem st_neg {t i : Nat} : ((-1 : Int), (0 : Int), (0 : Int)) ∉ keysT (st t i) := by
  intro hm
  rcases st_mem hm with ⟨j, hj, e⟩ | ⟨j, hj, e⟩
  · have := congrArg Prod.fst e
    simp only at this
    omega
  · have := congrArg Prod.fst e
    simp only at this
    omega
theorem fl_new (i : Nat) : ((i : Int), 0, 0) ∉ keysT (fl 0 i) := by
  intro hm
  obtain ⟨j, hj, e⟩ := fl_mem hm
  have := congrArg Prod.fst e
  simp only at this
  omega
theorem wf_run (n : Int) (h : -9223372036854775808 ≤ n ∧ n ≤ 9223372036854775807) : wf3 (n, 0, 0) := ⟨WalkArith.wf_i64 h, rfl, rfl⟩
def fuRel (w0 : World) (g : Nat) (F : Nat → List Tk) (m : Nat) (iv : Value) (wr : World) : Prop := ∃ i : Nat, i ≤ m ∧ iv = .int .i64 (i : Int) ∧ QL w0 g (F i) wr
theorem full_any (t : Int) (ht : -9223372036854775808 ≤ t ∧ t ≤ 9223372036854775807) (w : World) : Calls Try.prog 5 #[.int .i64 t] w fun e w' => e = .returned (.bool true) ∧ Below w.heap.size w w' := by
  have WA := Lib.hid (waits_any w)
  by_cases h0 : t < 0
  · go_enter Try.func5, Try.ntmps5
    go_wp2_with (with_reducible refine WA.out.mono ?_; rintro e w1 ⟨rfl, hb1⟩)
    go_ret
    exact ⟨rfl, hb1⟩
  by_cases h1 : 128 < t
  · go_enter Try.func5, Try.ntmps5
    go_wp2_with (with_reducible refine WA.out.mono ?_; rintro e w1 ⟨rfl, hb1⟩)
    go_ret
    exact ⟨rfl, hb1⟩
  obtain ⟨n, rfl⟩ : ∃ n : Nat, t = (n : Int) := ⟨t.toNat, by omega⟩
  have hn : n ≤ 128 := by omega
  go_enter Try.func5, Try.ntmps5
  go_upto_region 6 with (with_reducible refine WA.out.mono ?_; rintro e w1 ⟨rfl, hb1⟩)
  obtain ⟨w2, hw2⟩ : ∃ x, x = w1.alloc (.cells #[.pointer none, .pointer none, .map none] 29) := ⟨_, rfl⟩
  obtain ⟨g, hg⟩ : ∃ g, g = w1.heap.size := ⟨_, rfl⟩
  rw [← hw2, ← hg]
  have B2 := Lib.hid (hb1.trans (show Below w.heap.size w1 w2 by rw [hw2]; exact (Below.refl _ _).alloc hb1.size _))
  have GL := Lib.hid (show w.heap.size ≤ g by rw [hg]; exact hb1.size)
  have Q2 := Lib.hid (show QL w2 g [] w2 from QL.first hg (by rw [← hw2]; exact Below.refl _ _) (by rw [← hw2]; exact Nat.le_refl _))
  clear hw2 hg hb1 WA
  go_wp2_with fail
  go_loopw [14] (fun iv wr => fuRel w2 g (fl 0) 128 iv wr) (fun iv _ => 128 - (intOf iv).toNat)
  case atStart => exact ⟨0, by omega, rfl, Q2.out⟩
  case round =>
    obtain ⟨wq, rfl⟩ : ∃ wq : World, wq = wr := ⟨_, rfl⟩
    obtain ⟨i, hi, rfl, hQ⟩ := hrel
    by_cases hin : i < 128
    · have hin2 : (i : Int) < 128 := by omega
      have AD := Lib.hid (ql_add hQ ((i : Int), 0, 0) (wf_run _ (by omega)) 0 rfl)
      rw [addR_new (fl_new i) (by rw [fl_len]; exact hin), addW_new (fl_new i) (by rw [fl_len]; exact hin)] at AD
      replace AD : Hid (Calls Try.prog 14 #[.pointer (some ⟨g, 0, none⟩), .agg #[.int .i64 (i : Int), .int .i64 0, .int .i64 0], .int .i64 0] wq fun e w' => e = .returned (.int .i64 0) ∧ QL w2 g (fl 0 (i + 1)) w') := Lib.hid (by
        refine AD.out.mono fun e w' h => ⟨h.1, ?_⟩
        have h2 := h.2
        rw [fl_succ]
        simpa using h2)
      clear hQ
      go_wp2_with (with_reducible refine AD.out.mono ?_; rintro e w3 ⟨rfl, hq3⟩)
      exact ⟨⟨i + 1, by omega, rfl, hq3⟩, by simp [intOf]; omega⟩
    · have hin2 : ¬ (i : Int) < 128 := by omega
      obtain rfl : i = 128 := by omega
      have AD := Lib.hid (ql_add (W := st 0 0) (by simpa [st, fl] using hQ) (-1, 0, 0) (wf_run _ (by omega)) 0 rfl)
      rw [addR_full st_neg (by rw [st_len (by omega)]), addW_full st_neg (by rw [st_len (by omega)])] at AD
      replace AD : Hid (Calls Try.prog 14 #[.pointer (some ⟨g, 0, none⟩), .agg #[.int .i64 (-1), .int .i64 0, .int .i64 0], .int .i64 0] wq fun e w' => e = .returned (.int .i64 3) ∧ QL w2 g (st 0 0) w') := AD
      obtain ⟨iv, hiv⟩ : ∃ iv, iv = ((128 : Nat) : Int) := ⟨_, rfl⟩
      rw [← hiv] at hin2 ⊢
      clear hQ hiv hi hin
      go_wp2_with (with_reducible refine AD.out.mono ?_; rintro e w3 ⟨rfl, hq3⟩)
      have Q3 := Lib.hid hq3
      clear hq3 AD Q2
      go_loopw [26] (fun iv wr => fuRel w2 g (fun t => st t 0) n iv wr) (fun iv _ => n - (intOf iv).toNat)
      case atStart => exact ⟨0, by omega, rfl, Q3.out⟩
      case round =>
        obtain ⟨wp, rfl⟩ : ∃ wp : World, wp = wr := ⟨_, rfl⟩
        obtain ⟨i, hi, rfl, hQ⟩ := hrel
        by_cases hin : i < n
        · have hin2 : (i : Int) < (n : Int) := by omega
          have TK := Lib.hid (ql_take (x := (((i : Int), 0, 0), 0)) (W := st (i + 1) 0) (by rw [← st_take (by omega)]; exact hQ))
          clear hQ
          go_wp2_with (with_reducible refine TK.out.mono ?_; rintro e w4 ⟨rfl, hq4⟩)
          exact ⟨⟨i + 1, by omega, rfl, hq4⟩, by simp [intOf]; omega⟩
        · have hin2 : ¬ (i : Int) < (n : Int) := by omega
          obtain rfl : i = n := by omega
          have Q4 := Lib.hid hQ
          clear hQ Q3 hi hin
          go_wp2_with fail
          go_loopw [31] (fun iv wr => fuRel w2 g (fun j => st i j) i iv wr) (fun iv _ => i - (intOf iv).toNat)
          case atStart => exact ⟨0, by omega, rfl, Q4.out⟩
          case round =>
            obtain ⟨wo, rfl⟩ : ∃ wo : World, wo = wr := ⟨_, rfl⟩
            obtain ⟨j, hj, rfl, hQ⟩ := hrel
            by_cases hjn : j < i
            · have hjn2 : (j : Int) < (i : Int) := by omega
              have AD := Lib.hid (ql_add hQ (((1000 + j : Nat) : Int), 0, 0) (wf_run _ (by omega)) 0 rfl)
              rw [addR_new (st_new hjn hn) (by rw [st_len hn]; omega), addW_new (st_new hjn hn) (by rw [st_len hn]; omega)] at AD
              replace AD : Hid (Calls Try.prog 14 #[.pointer (some ⟨g, 0, none⟩), .agg #[.int .i64 (1000 + (j : Int)), .int .i64 0, .int .i64 0], .int .i64 0] wo fun e w' => e = .returned (.int .i64 0) ∧ QL w2 g (st i (j + 1)) w') := Lib.hid (by
                have h1 := AD.out
                rw [Int.natCast_add] at h1
                refine h1.mono fun e w' h => ⟨h.1, ?_⟩
                have h2 := h.2
                rw [st_succ]
                exact h2)
              clear hQ
              go_wp2_with (with_reducible refine AD.out.mono ?_; rintro e w5 ⟨rfl, hq5⟩)
              exact ⟨⟨j + 1, by omega, rfl, hq5⟩, by simp [intOf]; omega⟩
            · have hjn2 : ¬ (j : Int) < (i : Int) := by omega
              obtain rfl : j = i := by omega
              have hl : (st j j).length = 128 := by rw [st_len hn]; omega
              have LE := Lib.hid (ql_len hQ)
              rw [hl] at LE
              have AD := Lib.hid (ql_add hQ (-1, 0, 0) (wf_run _ (by omega)) 0 rfl)
              rw [addR_full st_neg hl, addW_full st_neg hl] at AD
              replace AD : Hid (Calls Try.prog 14 #[.pointer (some ⟨g, 0, none⟩), .agg #[.int .i64 (-1), .int .i64 0, .int .i64 0], .int .i64 0] wo fun e w' => e = .returned (.int .i64 3) ∧ QL w2 g (st j j) w') := AD
              clear hQ hl hj hjn Q4
              go_wp2_with (first | (with_reducible refine LE.out.mono ?_; rintro e w5 ⟨rfl, rfl⟩) | (with_reducible refine AD.out.mono ?_; rintro e w6 ⟨rfl, hq6⟩))
              go_ret
              exact ⟨rfl, hq6.low B2.out GL.out (Nat.le_refl _)⟩
end Go.Proofs.Ytjjmjbemflhlbaa.Qu
