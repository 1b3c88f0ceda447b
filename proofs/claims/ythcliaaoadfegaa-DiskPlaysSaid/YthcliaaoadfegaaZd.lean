/- The reference's disk: has, last, Get. -/
import Derived.Test.YthcliaaoadfegaaZc
namespace Go.Proofs.Ythcliaaoadfegaa.Dk
open Go Go.RowKit
set_option linter.unusedVariables false
set_option linter.unusedSimpArgs false
def HsRel (K : List Int) (n : Int) (w : World) (u : Value) (wr : World) : Prop := ∃ i : Nat, u = .int .i64 (i : Int) ∧ i ≤ K.length ∧ (∀ j, j < i → ¬ K.getD j 0 = n) ∧ wr = w
set_option maxRecDepth 100000 in
set_option maxHeartbeats 1600000 in
theorem r5has_any {w : World} {ko : Option Addr} {kc : Nat} {K : List Int} (hK : Nums w (.slice ko K.length kc) K) (hn : K.length ≤ 1000000) (n : Int) : Calls Try.prog 43 #[.slice ko K.length kc, .int .i64 n] w fun e w' => e = .returned (.bool (decide (n ∈ K))) ∧ w' = w := by
  have HK := Lib.hid (show ∀ j, j < K.length → ∃ a, ko = some a ∧ w.cell? (a.add j) = some (.int .i64 (K.getD j 0)) from by
    obtain ⟨ao, c, e, h, _⟩ := hK
    injection e with e1 e2 e3
    subst e1
    exact h)
  have H0 := Lib.hid (show HsRel K n w (.int .i64 0) w from ⟨0, rfl, Nat.zero_le _, fun j hj => by omega, rfl⟩)
  clear hK
  go_enter Try.func43, Try.ntmps43
  go_wp2_with fail
  go_loopw [5] (fun u wr => HsRel K n w u wr) (fun u _ => K.length - (intOf u).toNat)
  case atStart => exact H0.out
  case round =>
    obtain ⟨i, rfl, hi, hno, rfl⟩ := hrel
    have HNO := Lib.hid hno
    clear hno H0
    by_cases hil : i < K.length
    · have hii : (i : Int) < (K.length : Int) := by omega
      obtain ⟨a, rfl, hcell⟩ := HK.out i hil
      by_cases hq : K.getD i 0 = n
      · have hin : decide (n ∈ K) = true := decide_eq_true (by rw [← hq]; simp [List.getD, hil])
        have HIN := Lib.hid hin
        rw [hq] at hcell
        clear hin hq
        go_wp2_with fail
        go_ret
        exact ⟨by rw [HIN.out]; rfl, rfl⟩
      · have RL := Lib.hid (show HsRel K n wr (.int .i64 ((i + 1 : Nat) : Int)) wr from ⟨i + 1, rfl, by omega, fun j hj => by by_cases e : j = i; (exact e ▸ hq); (exact HNO.out j (by omega)), rfl⟩)
        obtain ⟨z, hz⟩ : ∃ z, z = K.getD i 0 := ⟨_, rfl⟩
        rw [← hz] at hcell hq
        clear hz
        go_wp2_with fail
        exact ⟨RL.out, by simp [intOf]; omega⟩
    · obtain rfl : i = K.length := by omega
      have hii : ¬ (K.length : Int) < (K.length : Int) := by omega
      have hin : decide (n ∈ K) = false := decide_eq_false (fun h => by
        obtain ⟨j, hj, e⟩ := List.mem_iff_getElem.1 h
        exact HNO.out j hj (by simp [List.getD, hj, e]))
      have HIN := Lib.hid hin
      clear hin
      go_wp2_with fail
      go_ret
      exact ⟨by rw [HIN.out]; rfl, rfl⟩
def LaRel (W : List (Int × List UInt8)) (n : Int) (w1 : World) (a b u : Value) (wr : World) : Prop :=
  ∃ i : Nat, a = .string (str ((lastW (W.take i) n).getD [])) ∧ b = .bool (lastW (W.take i) n).isSome ∧ u = .int .i64 (i : Int) ∧ i ≤ W.length ∧ wr = w1
theorem str_none : (⟨#[]⟩ : ByteArray) = str ((lastW [] (0 : Int)).getD []) := rfl
set_option maxRecDepth 100000 in
set_option maxHeartbeats 1600000 in
theorem r5last_any {T : Nat → Prop} {w : World} {v : RV} {x : DS} {W : List (Int × List UInt8)} (hv : RVOf T w v x W) (hW : W.length ≤ 1000000) (n : Int) :
    Calls Try.prog 42 #[.agg v.cells.toArray, .int .i64 n] w fun e w' => e = .returned (.tuple #[.string (str ((lastW W n).getD [])), .bool (lastW W n).isSome]) ∧ Below w.heap.size w w' := by
  obtain ⟨k1, hk1⟩ : ∃ k, k = w.heap.size := ⟨_, rfl⟩
  obtain ⟨w1, hw1⟩ : ∃ w1, w1 = w.alloc (.cells v.cells.toArray 32) := ⟨_, rfl⟩
  have h1 : RVB w1 k1 v := by rw [hw1, hk1]; exact heap_alloc_new _ _
  have hb : Below w.heap.size w w1 := by rw [hw1]; exact (Below.refl _ _).alloc (Nat.le_refl _) _
  have hv1 := hv.below hb (Nat.le_refl _)
  have c1 := h1.c1
  rw [hv1.wn] at c1
  obtain ⟨wo, hwo⟩ : ∃ wo, wo = v.wo := ⟨_, rfl⟩
  obtain ⟨wc, hwc⟩ : ∃ wc, wc = v.wc := ⟨_, rfl⟩
  have HWA := Lib.hid (show WrA T w1 wo W by rw [hwo]; exact hv1.W)
  rw [← hwo, ← hwc] at c1
  have HB := Lib.hid hb
  have HW1 := Lib.hid hw1
  have HK1 := Lib.hid hk1
  have H0 := Lib.hid (show LaRel W n w1 (.string ⟨#[]⟩) (.bool false) (.int .i64 0) w1 from ⟨0, rfl, rfl, rfl, Nat.zero_le _, rfl⟩)
  clear h1 hb hv1 hv hw1 hk1 hwo hwc
  go_enter Try.func42, Try.ntmps42
  go_upto_region 1 with fail
  rw [← HW1.out, ← HK1.out]
  go_wp2_with fail
  go_loopw [6, 7, 8] (fun a b u wr => LaRel W n w1 a b u wr) (fun _ _ u _ => W.length - (intOf u).toNat)
  case atStart => exact H0.out
  case round =>
    obtain ⟨i, rfl, rfl, rfl, hi, hwr⟩ := hrel
    obtain rfl := hwr
    clear H0
    by_cases hil : i < W.length
    · have hii : (i : Int) < (W.length : Int) := by omega
      obtain ⟨kw, rfl, hcells⟩ : ∃ kw, wo = some ⟨kw, 0, none⟩ ∧ (wr.cell? ⟨kw, i * 2, none⟩ = some (.int .i64 (W.getD i default).1) ∧ wr.cell? ⟨kw, i * 2 + 1, none⟩ = some (.string (str (W.getD i default).2))) := by
        cases wo with
        | none => have := HWA.out.1 rfl; rw [this] at hil; simp at hil
        | some a => obtain ⟨k, rfl, _, _, hc⟩ := HWA.out.2 a rfl; exact ⟨k, rfl, hc i hil⟩
      obtain ⟨d0, d1⟩ := hcells
      have hl := lastW_take hil n
      by_cases hq : (W.getD i default).1 = n
      · rw [if_pos hq] at hl
        rw [hq] at d0
        obtain ⟨b, hb⟩ : ∃ b, b = (W.getD i default).2 := ⟨_, rfl⟩
        rw [← hb] at d1 hl
        have RL := Lib.hid (show LaRel W n wr (.string (str b)) (.bool true) (.int .i64 ((i + 1 : Nat) : Int)) wr from ⟨i + 1, by rw [hl]; rfl, by rw [hl]; rfl, rfl, by omega, rfl⟩)
        clear hl hb hq
        go_wp2_with fail
        exact ⟨RL.out, by simp [intOf]; omega⟩
      · rw [if_neg hq] at hl
        have RL := Lib.hid (show LaRel W n wr (.string (str ((lastW (W.take i) n).getD []))) (.bool (lastW (W.take i) n).isSome) (.int .i64 ((i + 1 : Nat) : Int)) wr from ⟨i + 1, by rw [hl], by rw [hl], rfl, by omega, rfl⟩)
        obtain ⟨z, hz⟩ : ∃ z, z = (W.getD i default).1 := ⟨_, rfl⟩
        rw [← hz] at d0 hq
        generalize str ((lastW (W.take i) n).getD []) = sa at *
        generalize (lastW (W.take i) n).isSome = sb at *
        clear hl hz
        go_wp2_with fail
        exact ⟨RL.out, by simp [intOf]; omega⟩
    · obtain rfl : i = W.length := by omega
      have hii : ¬ (W.length : Int) < (W.length : Int) := by omega
      rw [List.take_length]
      go_wp2_with fail
      go_ret2
      exact ⟨rfl, HB.out⟩
theorem read_link {x : DS} {W : List (Int × List UInt8)} (hL : Link x W) (hd : x.down = false) (i : Int) : x.read i = if x.has i = false then ([], 1) else ((lastW W i).getD (x.s.getD i.toNat []), 0) := by
  unfold DS.read DS.sure
  rw [if_neg (by rw [hd]; decide)]
  cases hs : x.S i with
  | none =>
    have := hL.S i
    rw [hs] at this
    rw [← this]
    rfl
  | some l =>
    have h2 := (hL.at hs).2.1
    have := hL.S i
    rw [hs] at this
    rw [← this, h2]
    rfl
set_option maxRecDepth 100000 in
set_option maxHeartbeats 1600000 in
theorem r5Get_any {T : Nat → Prop} {w : World} {v : RV} {x : DS} {W : List (Int × List UInt8)} (hv : RVOf T w v x W) (hL : Link x W) (hW : W.length ≤ 1000000) (n : Int) (hn : wfi n) :
    Calls Try.prog 24 #[.agg v.cells.toArray, .int .i64 n] w fun e w' => e = .returned (.tuple #[.string (str (x.read n).1), .int .i64 (x.read n).2]) ∧ Below w.heap.size w w' := by
  obtain ⟨k1, hk1⟩ : ∃ k, k = w.heap.size := ⟨_, rfl⟩
  obtain ⟨w1, hw1⟩ : ∃ w1, w1 = w.alloc (.cells v.cells.toArray 32) := ⟨_, rfl⟩
  have h1 : RVB w1 k1 v := by rw [hw1, hk1]; exact heap_alloc_new _ _
  have hb : Below w.heap.size w w1 := by rw [hw1]; exact (Below.refl _ _).alloc (Nat.le_refl _) _
  have hv1 := hv.below hb (Nat.le_refl _)
  have LA := Lib.hid (r5last_any hv1 hW n)
  have c0 := h1.c0
  have c2 := h1.c2
  rw [hv1.sn] at c0
  rw [hv1.dn] at c2
  obtain ⟨so, hso⟩ : ∃ so, so = v.so := ⟨_, rfl⟩
  obtain ⟨sc, hsc⟩ : ∃ sc, sc = v.sc := ⟨_, rfl⟩
  have HSA := Lib.hid (show StrA T w1 so x.s by rw [hso]; exact hv1.S)
  rw [← hso, ← hsc] at c0
  have H1 := Lib.hid h1
  have HCS := Lib.hid h1.cs
  have HSZ := Lib.hid (Try.r5Size v)
  have HB := Lib.hid hb
  have HW1 := Lib.hid hw1
  have HK1 := Lib.hid hk1
  have HL := Lib.hid hL
  clear h1 hb hv1 hv hw1 hk1 hso hsc hL
  cases hd : x.down with
  | true =>
    rw [hd] at c2
    have hr : x.read n = ([], 50) := by unfold DS.read; rw [if_pos hd]
    rw [hr]
    clear hr hd
    go_enter Try.func24, Try.ntmps24
    go_upto_region 1 with fail
    rw [← HW1.out, ← HK1.out]
    go_wp2_with fail
    go_ret2
    exact ⟨rfl, HB.out⟩
  | false =>
    rw [hd] at c2
    rw [read_link HL.out hd n]
    clear hd
    cases hh : x.has n with
    | false =>
      rw [if_pos rfl]
      have hor : n < 0 ∨ (x.s.length : Int) ≤ n := by
        unfold DS.has at hh
        rw [Bool.and_eq_false_iff] at hh
        simp at hh
        omega
      clear hh
      by_cases hn0 : n < 0
      · clear hor
        go_enter Try.func24, Try.ntmps24
        go_upto_region 1 with fail
        rw [← HW1.out, ← HK1.out]
        go_wp2_with fail
        go_ret2
        exact ⟨rfl, HB.out⟩
      · have hge : (x.s.length : Int) ≤ n := by omega
        clear hor
        go_enter Try.func24, Try.ntmps24
        go_upto_region 1 with fail
        rw [← HW1.out, ← HK1.out]
        go_wp2_with fail
        go_ret2
        exact ⟨rfl, HB.out⟩
    | true =>
      rw [if_neg (by decide)]
      have hin : 0 ≤ n ∧ n < (x.s.length : Int) := by simpa [DS.has] using hh
      obtain ⟨k, rfl⟩ : ∃ k : Nat, n = (k : Int) := ⟨n.toNat, by omega⟩
      have hk : k < x.s.length := by omega
      have hn0 : ¬ (k : Int) < 0 := by omega
      have hge : ¬ (x.s.length : Int) ≤ (k : Int) := by omega
      obtain ⟨ks, rfl, hcell⟩ : ∃ ks, so = some ⟨ks, 0, none⟩ ∧ (ks < w1.heap.size ∧ w1.cell? ⟨ks, k, none⟩ = some (.string (str (x.s.getD k [])))) := by
        cases so with
        | none => have := HSA.out.1 rfl; rw [this] at hk; simp at hk
        | some a => obtain ⟨k', rfl, h1, _, hc⟩ := HSA.out.2 a rfl; exact ⟨k', rfl, h1, hc k hk⟩
      obtain ⟨hks, hcell⟩ := hcell
      rw [Int.toNat_natCast]
      obtain ⟨b0, hb0⟩ : ∃ b0, b0 = x.s.getD k [] := ⟨_, rfl⟩
      rw [← hb0] at hcell ⊢
      have HC := Lib.hid hcell
      have HKS := Lib.hid hks
      clear hh hin hcell hks hb0
      go_enter Try.func24, Try.ntmps24
      go_upto_region 1 with fail
      rw [← HW1.out, ← HK1.out]
      go_wp2_with (with_reducible show wpList _ _ _ _ _ _; refine wpList_load_all rfl 32 (.tmp 2) rfl ⟨k1, 0, none⟩ rfl v.cells _ HCS.out Try.underlying32 rfl HSZ.out ?_)
      refine LA.out.mono ?_
      rintro e w2 ⟨rfl, hb2⟩
      have c0' : w2.cell? ⟨k1, 0, none⟩ = some (.slice (some ⟨ks, 0, none⟩) x.s.length sc) := by rw [hb2.cell (p := ⟨k1, 0, none⟩) H1.out.lt]; exact c0
      have hcell' : w2.cell? ⟨ks, k, none⟩ = some (.string (str b0)) := by rw [hb2.cell (p := ⟨ks, k, none⟩) HKS.out]; exact HC.out
      have HB2 := Lib.hid (HB.out.trans (hb2.mono HB.out.size))
      clear c0 c2 hb2 LA
      cases hlw : lastW W (k : Int) with
      | none =>
        have HLW := Lib.hid hlw
        clear hlw
        go_wp2_with fail
        go_ret2
        exact ⟨by rw [HLW.out]; rfl, HB2.out⟩
      | some l =>
        have HLW := Lib.hid hlw
        clear hlw
        go_wp2_with fail
        go_ret2
        exact ⟨by rw [HLW.out]; rfl, HB2.out⟩
end Go.Proofs.Ythcliaaoadfegaa.Dk
