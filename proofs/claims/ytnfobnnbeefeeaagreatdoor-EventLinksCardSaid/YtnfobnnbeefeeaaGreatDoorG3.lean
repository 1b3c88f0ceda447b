/- Values as trees: what they are, and where they lie. -/
import Derived.Test.YtnfobnnbeefeeaaGreatDoorG1
import Derived.Test.YtnfobnnbeefeeaaGreatDoorG2
import Derived.Deep.MidRow
import Derived.Lib.SmallJoins
import Derived.Test.YtnfobnnbeefeeaaGreatDoorSq
namespace Go.Proofs.YtnfobnnbeefeeaaGreatDoor.Wi
open Go Go.RowKit
set_option linter.unusedVariables false
set_option linter.unusedSimpArgs false
theorem str_sizeX (l : List UInt8) : (str l).size = l.length := by simp [str, ByteArray.size]
/-- A value, and where its list lies, and how much room is there. -/
inductive VT where
  | mk (k n : Int) (s : List UInt8) (ao : Option Addr) (c : Nat) (l : List VT)
def VT.cells : VT → List Value
  | .mk k n s ao c l => [.int .i64 k, .int .i64 n, .string (str s), .slice ao l.length c]
def VT.lst : VT → List VT
  | .mk _ _ _ _ _ l => l
def vcs (l : List VT) : List Value := (l.map VT.cells).flatten
theorem VT.cells_len (v : VT) : v.cells.length = 4 := by cases v; rfl
theorem VT.cells_one' (v : VT) : ∀ u ∈ v.cells, u.oneCell' = true := by
  intro u hu
  cases v
  simp [VT.cells] at hu
  rcases hu with rfl | rfl | rfl | rfl <;> rfl
theorem VT.cells_one (v : VT) : v.cells.toArray.all (·.oneCell') = true := by
  rw [Array.all_eq_true_iff_forall_mem]
  intro u hu
  exact v.cells_one' u (by simpa using hu)
theorem vcs_len : ∀ l : List VT, (vcs l).length = l.length * 4
  | [] => rfl
  | x :: l => by
    have h := vcs_len l
    have h2 := x.cells_len
    simp only [vcs, List.map_cons, List.flatten_cons, List.length_append, List.length_cons] at h ⊢
    omega
theorem vcs_app (a b : List VT) : vcs (a ++ b) = vcs a ++ vcs b := by simp [vcs]
theorem vcs_one (l : List VT) : ∀ u ∈ vcs l, u.oneCell' = true := by
  intro u hu
  simp only [vcs, List.mem_flatten, List.mem_map] at hu
  obtain ⟨q, ⟨x, _, rfl⟩, hu⟩ := hu
  cases x
  simp [VT.cells] at hu
  rcases hu with rfl | rfl | rfl | rfl <;> rfl
theorem vcs_at : ∀ (l : List VT) (i : Nat) (x : VT), l[i]? = some x → ∀ (j : Nat) (v : Value), x.cells[j]? = some v → (vcs l)[i * 4 + j]? = some v
  | [], i, x, h => by simp at h
  | y :: l, 0, x, h => fun j v hj => by
    obtain rfl : y = x := by simpa using h
    have := (List.getElem?_eq_some_iff.1 hj).1
    simp only [vcs, List.map_cons, List.flatten_cons, Nat.zero_mul, Nat.zero_add]
    rw [List.getElem?_append_left this]
    exact hj
  | y :: l, i + 1, x, h => fun j v hj => by
    have ih := vcs_at l i x (by simpa using h) j v hj
    have h4 := y.cells_len
    simp only [vcs, List.map_cons, List.flatten_cons] at ih ⊢
    rw [List.getElem?_append_right (by omega), h4, show (i + 1) * 4 + j - 4 = i * 4 + j by omega]
    exact ih
mutual
/-- A value's lists lie in blocks below N, and its numbers and sizes are those of Go. -/
def VT.At (N : Nat) (w : World) : VT → Prop
  | .mk k n s ao c l => (-9223372036854775808 ≤ k ∧ k ≤ 9223372036854775807) ∧ (-9223372036854775808 ≤ n ∧ n ≤ 9223372036854775807) ∧ s.length ≤ 140737488355328 ∧ l.length * 56 ≤ 140737488355328 ∧
    (l ≠ [] → ∃ ad, ao = some ad ∧ ad.block < N ∧ ∀ (j : Nat) v, (vcs l)[j]? = some v → w.cell? (ad.add j) = some v) ∧ AtL N w l
def AtL (N : Nat) (w : World) : List VT → Prop
  | [] => True
  | x :: l => x.At N w ∧ AtL N w l
end
theorem atL_mem {N : Nat} {w : World} : ∀ {l : List VT}, AtL N w l → ∀ x ∈ l, x.At N w
  | [], _, x, hx => by cases hx
  | y :: l, h, x, hx => by
    rw [AtL] at h
    rcases List.mem_cons.1 hx with rfl | hx
    · exact h.1
    · exact atL_mem h.2 x hx
theorem atL_of {N : Nat} {w : World} : ∀ {l : List VT}, (∀ x ∈ l, x.At N w) → AtL N w l
  | [], _ => by rw [AtL]; trivial
  | y :: l, h => by
    rw [AtL]
    exact ⟨h y (by simp), atL_of fun x hx => h x (by simp [hx])⟩
theorem VT.ind {P : VT → Prop} (h : ∀ k n s ao c l, (∀ x ∈ l, P x) → P (.mk k n s ao c l)) : ∀ v, P v :=
  fun v => VT.rec (motive_1 := P) (motive_2 := fun l => ∀ x ∈ l, P x) (fun k n s ao c l ih => h k n s ao c l ih) (fun x hx => by cases hx) (fun y l hy hl x hx => by
    rcases List.mem_cons.1 hx with rfl | hx
    · exact hy
    · exact hl x hx) v
theorem addr_blockK (a : Addr) (n : Nat) : (a.add n).block = a.block := by unfold Addr.add; split <;> rfl
theorem VT.At.keep {N : Nat} {w w' : World} : ∀ {v : VT}, v.At N w → (∀ k, k < N → w'.heap[k]? = w.heap[k]?) → v.At N w' := by
  intro v
  induction v using VT.ind with
  | h k n s ao c l ih =>
    intro h hk
    rw [VT.At] at h ⊢
    obtain ⟨h1, h2, h3, h4, h5, h6⟩ := h
    refine ⟨h1, h2, h3, h4, fun hl => ?_, atL_of fun x hx => ih x hx (atL_mem h6 x hx) hk⟩
    obtain ⟨ad, e, hb, hc⟩ := h5 hl
    refine ⟨ad, e, hb, fun j v hj => ?_⟩
    have e2 : w'.cell? (ad.add j) = w.cell? (ad.add j) := World.cell?_of_block (by rw [addr_blockK]; exact hk _ hb)
    rw [e2]
    exact hc j v hj
theorem VT.At.mono {N N' : Nat} {w : World} : ∀ {v : VT}, v.At N w → N ≤ N' → v.At N' w := by
  intro v
  induction v using VT.ind with
  | h k n s ao c l ih =>
    intro h hk
    rw [VT.At] at h ⊢
    obtain ⟨h1, h2, h3, h4, h5, h6⟩ := h
    refine ⟨h1, h2, h3, h4, fun hl => ?_, atL_of fun x hx => ih x hx (atL_mem h6 x hx) hk⟩
    obtain ⟨ad, e, hb, hc⟩ := h5 hl
    exact ⟨ad, e, Nat.lt_of_lt_of_le hb hk, hc⟩
theorem VT.At.below {N : Nat} {w w' : World} {v : VT} (h : v.At N w) (hb : Below N w w') : v.At N w' := h.keep fun k hk => hb.block k hk
theorem VT.At.elem {N : Nat} {w : World} {k n : Int} {s : List UInt8} {ao : Option Addr} {c : Nat} {l : List VT} (h : (VT.mk k n s ao c l).At N w) {i : Nat} {x : VT} (hx : l[i]? = some x) :
    x.At N w ∧ ∃ ad, ao = some ad ∧ ad.block < N ∧ ∀ W : World, (∀ k, k < N → W.heap[k]? = w.heap[k]?) → ∀ (j : Nat) v, x.cells[j]? = some v → W.cell? ((ad.add (i * 4)).add j) = some v := by
  rw [VT.At] at h
  obtain ⟨h1, h2, h3, h4, h5, h6⟩ := h
  obtain ⟨ad, e, hb, hc⟩ := h5 (fun e => by rw [e] at hx; simp at hx)
  refine ⟨atL_mem h6 x (List.mem_of_getElem? hx), ad, e, hb, fun W hW j v hj => ?_⟩
  have e2 : W.cell? (ad.add (i * 4 + j)) = w.cell? (ad.add (i * 4 + j)) := World.cell?_of_block (by rw [addr_blockK]; exact hW _ hb)
  rw [Addr.add_add, e2]
  exact hc _ v (vcs_at l i x hx j v hj)
/-- What the numbers and sizes are. -/
theorem VT.At.fit {N : Nat} {w : World} {k n : Int} {s : List UInt8} {ao : Option Addr} {c : Nat} {l : List VT} (h : (VT.mk k n s ao c l).At N w) :
    (-9223372036854775808 ≤ k ∧ k ≤ 9223372036854775807) ∧ (-9223372036854775808 ≤ n ∧ n ≤ 9223372036854775807) ∧ s.length ≤ 140737488355328 ∧ l.length ≤ 140737488355328 := by
  rw [VT.At] at h
  exact ⟨h.1, h.2.1, h.2.2.1, by have := h.2.2.2.1; omega⟩
theorem VT.At.fit4 {N : Nat} {w : World} {k n : Int} {s : List UInt8} {ao : Option Addr} {c : Nat} {l : List VT} (h : (VT.mk k n s ao c l).At N w) : l.length * 56 ≤ 140737488355328 := by
  rw [VT.At] at h
  exact h.2.2.2.1
theorem Tryz.valSize (v : VT) : (Tryz.prog.info? 26).map (·.size) = some v.cells.length := by rw [v.cells_len]; kernel_rfl
theorem Tryz.valSize' (v : VT) : (Tryz.prog.info? 26).map (·.size) = some v.cells.toArray.size := by rw [List.size_toArray]; exact Tryz.valSize v
theorem rowK {W : World} {g : Nat} {v : VT} (h : W.heap[g]? = some (.cells v.cells.toArray 26 (0, 0))) : ∀ (j : Nat) u, v.cells[j]? = some u → W.cell? ((⟨g, 0, none⟩ : Addr).add j) = some u := fun j u hj => by
  rw [Addr.add_mid, Nat.zero_add, cell_of_rowW W g j _ _ _ h]
  simpa using hj
def z4 : List Value := [.int .i64 0, .int .i64 0, .string ⟨#[]⟩, .slice none 0 0]
theorem VT.four (x : VT) : 4 = x.cells.toArray.size := by rw [List.size_toArray, x.cells_len]
theorem VT.fourZ (x : VT) : z4.toArray.size = x.cells.toArray.size := by rw [← x.four]; rfl
end Go.Proofs.YtnfobnnbeefeeaaGreatDoor.Wi
/- deeper, endless, atMost. -/
namespace Go.Proofs.YtnfobnnbeefeeaaGreatDoor.Wi
open Go Go.RowKit
set_option linter.unusedVariables false
set_option linter.unusedSimpArgs false
mutual
/-- Do more than m lists stand in one another? -/
def VT.dpr : VT → Nat → Bool
  | .mk k _ _ _ _ l, m => if k = 3 then (if m = 0 then true else dprL l (m - 1)) else false
def dprL : List VT → Nat → Bool
  | [], _ => false
  | x :: l, m => x.dpr m || dprL l m
end
theorem atMost_any (n m : Int) (w : World) : Calls Tryz.prog 135 #[.int .i64 n, .int .i64 m] w fun e w' => e = .returned (.int .i64 (if m < n then 2 else 0)) ∧ w' = w := by
  by_cases h : m < n
  · rw [if_pos h]
    go_enter Tryz.func135, Tryz.ntmps135
    go_wp2
    go_ret
    exact ⟨rfl, rfl⟩
  · rw [if_neg h]
    go_enter Tryz.func135, Tryz.ntmps135
    go_wp2
    go_ret
    exact ⟨rfl, rfl⟩
def dpRel (w : World) (l : List VT) (m : Nat) (i : Value) (wr : World) : Prop := ∃ j : Nat, i = .int .i64 (j : Int) ∧ j ≤ l.length ∧ dprL l m = dprL (l.drop j) m ∧ Below w.heap.size w wr
set_option maxHeartbeats 4000000 in
set_option maxRecDepth 100000 in
theorem deeper_any : ∀ (v : VT) (N m : Nat) (w : World), m ≤ 65536 → v.At N w → N ≤ w.heap.size → Calls Tryz.prog 142 #[.agg v.cells.toArray, .int .i64 (m : Int)] w fun e w' => e = .returned (.bool (v.dpr m)) ∧ Below w.heap.size w w' := by
  intro v
  induction v using VT.ind with
  | h k n s ao c l ih =>
    intro N m w hm hv hN
    obtain ⟨hk, hn, hs, hll⟩ := hv.fit
    have IH := Lib.hid ih
    have HV := Lib.hid hv
    clear ih hv
    obtain ⟨w1, hw1⟩ : ∃ w1, w1 = w.alloc (.cells (VT.mk k n s ao c l).cells.toArray 26) := ⟨_, rfl⟩
    obtain ⟨g, hg⟩ : ∃ g, g = w.heap.size := ⟨_, rfl⟩
    have hb1 : Below w.heap.size w w1 := by rw [hw1]; exact (Below.refl _ _).alloc (Nat.le_refl _) _
    have nk : w1.heap[g]? = some (.cells (VT.mk k n s ao c l).cells.toArray 26 (0, 0)) := by rw [hw1, hg]; exact heap_alloc_new _ _
    have k0 : w1.cell? ⟨g, 0, none⟩ = some (.int .i64 k) := by rw [cell_of_rowW w1 g 0 _ _ _ nk]; rfl
    have k3 : w1.cell? ⟨g, 3, none⟩ = some (.slice ao l.length c) := by rw [cell_of_rowW w1 g 3 _ _ _ nk]; rfl
    have HB1 := Lib.hid hb1
    have HW1 := Lib.hid hw1
    have HG := Lib.hid hg
    have hdp : (VT.mk k n s ao c l).dpr m = if k = 3 then (if m = 0 then true else dprL l (m - 1)) else false := by rw [VT.dpr]
    rw [hdp]
    clear hb1 hw1 hg nk hdp
    unfold VT.cells at HW1
    show Calls Tryz.prog 142 #[.agg #[.int .i64 k, .int .i64 n, .string (str s), .slice ao l.length c], .int .i64 (m : Int)] w _
    by_cases h3 : k = 3
    · rw [if_pos h3]
      by_cases h0 : m = 0
      · rw [if_pos h0]
        subst h0 h3
        rw [show ((0 : Nat) : Int) = 0 from rfl]
        go_enter Tryz.func142, Tryz.ntmps142
        go_upto_region 1 with fail
        rw [← HW1.out, ← HG.out]
        go_wp2_with fail
        go_ret
        exact ⟨rfl, HB1.out⟩
      · rw [if_neg h0]
        subst h3
        have h0' : ¬ (m : Int) = 0 := by omega
        have HM := Lib.hid (show m - 1 ≤ 65536 by omega)
        have e1 : (m : Int) - 1 = ((m - 1 : Nat) : Int) := by omega
        obtain ⟨m1, hm1⟩ : ∃ m1, m1 = m - 1 := ⟨_, rfl⟩
        rw [← hm1] at e1 HM ⊢
        have E1 := Lib.hid e1
        have SZ := Lib.hid Tryz.valSize
        have SZ' := Lib.hid Tryz.valSize'
        have S4 := Lib.hid (show ∀ x : VT, 4 = x.cells.toArray.size from fun x => by rw [List.size_toArray, x.cells_len])
        obtain ⟨R, hR⟩ : ∃ R, R = dprL l m1 := ⟨_, rfl⟩
        rw [← hR]
        have HR := Lib.hid hR
        clear hm1 e1 h0 hR
        go_enter Tryz.func142, Tryz.ntmps142
        go_upto_region 1 with fail
        rw [← HW1.out, ← HG.out]
        go_wp2_with fail
        go_loopw [15] (fun i wr => dpRel w l m1 i wr) (fun i _ => l.length - (intOf i).toNat)
        case atStart => exact ⟨0, rfl, Nat.zero_le _, rfl, HB1.out⟩
        case round =>
          obtain ⟨wq, rfl⟩ : ∃ wq : World, wq = wr := ⟨_, rfl⟩
          obtain ⟨j, rfl, hj, hd, hb⟩ := hrel
          have HB := Lib.hid hb
          have HD := Lib.hid hd
          clear hb hd k0 k3
          have q0 : (0 : Int) ≤ (j : Int) := by omega
          by_cases hjl : j < l.length
          · have q1 : (j : Int) < (l.length : Int) := by omega
            obtain ⟨x, hx⟩ : ∃ x, l[j]? = some x := ⟨_, List.getElem?_eq_getElem hjl⟩
            obtain ⟨hxv, ad, rfl, had, hxc⟩ := HV.out.elem hx
            have hdj : dprL (l.drop j) m1 = (x.dpr m1 || dprL (l.drop (j + 1)) m1) := by
              rw [List.drop_eq_getElem_cons hjl]
              rw [List.getElem?_eq_getElem hjl] at hx
              injection hx with hx
              rw [hx, dprL]
            have CX := fun W (h : Below wq.heap.size wq W) => IH.out x (List.mem_of_getElem? hx) N m1 W HM.out (hxv.below ((HB.out.trans (h.mono HB.out.size)).mono hN)) (Nat.le_trans hN (Nat.le_trans HB.out.size h.size))
            have KX := Lib.hid (hxc wq (fun q hq => HB.out.block q (by omega)))
            have HDJ := Lib.hid hdj
            obtain ⟨b, hb⟩ : ∃ b, b = x.dpr m1 := ⟨_, rfl⟩
            rw [← hb] at HDJ CX
            have HCX := Lib.hid CX
            clear hxv hxc hdj hb CX had hx
            obtain ⟨w2, hw2⟩ : ∃ w2, w2 = wq.alloc (.cells x.cells.toArray 26) := ⟨_, rfl⟩
            obtain ⟨d, hd⟩ : ∃ d, d = wq.heap.size := ⟨_, rfl⟩
            have hb2 : Below wq.heap.size wq w2 := by rw [hw2]; exact (Below.refl _ _).alloc (Nat.le_refl _) _
            have n2 : w2.heap[d]? = some (.cells x.cells.toArray 26 (0, 0)) := by rw [hw2, hd]; exact heap_alloc_new _ _
            have KD := Lib.hid (show ∀ (j : Nat) v, x.cells[j]? = some v → w2.cell? ((⟨d, 0, none⟩ : Addr).add j) = some v from fun j v hj => by
              rw [Addr.add_mid, Nat.zero_add, cell_of_rowW w2 d j _ _ _ n2]
              simpa using hj)
            have HB2 := Lib.hid hb2
            have HW2 := Lib.hid hw2
            have HD2 := Lib.hid hd
            clear hw2 hd hb2 n2
            go_wp2_with (first
              | (with_reducible show wpList _ _ _ _ _ _; refine wpList_load_allW rfl 26 (.tmp 17) rfl _ rfl x.cells _ KX.out Tryz.underlying26 rfl (SZ.out x) ?_)
              | (with_reducible show wpList _ _ _ _ _ _; refine wpList_store_newW rfl 26 (.tmp 6) (.tmp 18) rfl 26 _ x.cells.toArray rfl rfl (SZ'.out x) (by with_unfolding_all exact S4.out x) x.cells_one ?_; rw [← HW2.out, ← HD2.out])
              | (with_reducible show wpList _ _ _ _ _ _; refine wpList_load_allW rfl 26 (.tmp 6) rfl ⟨d, 0, none⟩ rfl x.cells _ KD.out Tryz.underlying26 rfl (SZ.out x) ?_))
            rw [E1.out]
            refine (HCX.out w2 HB2.out).mono ?_
            rintro e w3 ⟨rfl, hb3⟩
            have HB3 := Lib.hid (HB.out.trans ((HB2.out.trans (hb3.mono HB2.out.size)).mono HB.out.size))
            clear hb3
            cases b
            · have RL := Lib.hid (show dpRel w l m1 (.int .i64 ((j + 1 : Nat) : Int)) w3 from ⟨j + 1, rfl, hjl, HD.out.trans HDJ.out, HB3.out⟩)
              go_wp2_with fail
              exact ⟨RL.out, by simp [intOf]; omega⟩
            · have hR : R = true := by rw [HR.out, HD.out, HDJ.out]; rfl
              subst hR
              go_wp2_with fail
              go_ret
              exact ⟨rfl, HB3.out⟩
          · have q1 : ¬ (j : Int) < (l.length : Int) := by omega
            have hR : R = false := by rw [HR.out, HD.out, List.drop_of_length_le (by omega)]; rfl
            subst hR
            go_wp2_with fail
            go_ret
            exact ⟨rfl, HB.out⟩
    · rw [if_neg h3]
      go_enter Tryz.func142, Tryz.ntmps142
      go_upto_region 1 with fail
      rw [← HW1.out, ← HG.out]
      go_wp2_with fail
      go_ret
      exact ⟨rfl, HB1.out⟩
theorem endless_any (v : VT) (N : Nat) (w : World) (hv : v.At N w) (hN : N ≤ w.heap.size) : Calls Tryz.prog 119 #[.agg v.cells.toArray] w fun e w' => e = .returned (.bool (v.dpr 65536)) ∧ Below w.heap.size w w' := by
  obtain ⟨w1, hw1⟩ : ∃ w1, w1 = w.alloc (.cells v.cells.toArray 26) := ⟨_, rfl⟩
  obtain ⟨g, hg⟩ : ∃ g, g = w.heap.size := ⟨_, rfl⟩
  have hb1 : Below w.heap.size w w1 := by rw [hw1]; exact (Below.refl _ _).alloc (Nat.le_refl _) _
  have nk : w1.heap[g]? = some (.cells v.cells.toArray 26 (0, 0)) := by rw [hw1, hg]; exact heap_alloc_new _ _
  have KD := Lib.hid (show ∀ (j : Nat) u, v.cells[j]? = some u → w1.cell? ((⟨g, 0, none⟩ : Addr).add j) = some u from fun j u hj => by
    rw [Addr.add_mid, Nat.zero_add, cell_of_rowW w1 g j _ _ _ nk]
    simpa using hj)
  have DP := Lib.hid (deeper_any v N 65536 w1 (Nat.le_refl _) (hv.below (hb1.mono hN)) (Nat.le_trans hN hb1.size))
  rw [show ((65536 : Nat) : Int) = 65536 from rfl] at DP
  have SZ := Lib.hid Tryz.valSize
  have HB1 := Lib.hid hb1
  have HW1 := Lib.hid hw1
  have HG := Lib.hid hg
  clear hb1 hw1 hg nk hv
  go_enter Tryz.func119, Tryz.ntmps119
  go_upto_region 1 with fail
  rw [← HW1.out, ← HG.out]
  go_wp2_with (with_reducible show wpList _ _ _ _ _ _; refine wpList_load_allW rfl 26 (.tmp 1) rfl ⟨g, 0, none⟩ rfl v.cells _ KD.out Tryz.underlying26 rfl (SZ.out v) ?_)
  refine DP.out.mono ?_
  rintro e w2 ⟨rfl, hb2⟩
  have HB2 := Lib.hid (HB1.out.trans (hb2.mono HB1.out.size))
  clear hb2
  go_wp2_with fail
  go_ret
  exact ⟨rfl, HB2.out⟩
end Go.Proofs.YtnfobnnbeefeeaaGreatDoor.Wi
/- The checker: its theory, and its walk. -/
namespace Go.Proofs.YtnfobnnbeefeeaaGreatDoor.Wi
open Go Go.RowKit
set_option linter.unusedVariables false
set_option linter.unusedSimpArgs false
mutual
/-- The error of a value in so many lists, behind so many values; how many there are then. -/
def VT.chk : VT → Nat → Nat → Int × Nat
  | .mk k n s ao c l, d, p => if 256 < p + 1 then (2, p + 1) else if k = 0 ∨ k = 1 then (0, p + 1) else if k = 2 then (if 256 < s.length then 2 else 0, p + 1) else if k = 3 then (if 8 ≤ d then (30, p + 1) else if 64 < l.length then (2, p + 1) else chkL l (d + 1) (p + 1)) else (9, p + 1)
def chkL : List VT → Nat → Nat → Int × Nat
  | [], d, p => (0, p)
  | x :: l, d, p => if (x.chk d p).1 ≠ 0 then x.chk d p else chkL l d (x.chk d p).2
end
theorem chk_le : ∀ (v : VT) (d p : Nat), (v.chk d p).1 = 0 → (v.chk d p).2 ≤ 256 := by
  intro v
  induction v using VT.ind with
  | h k n s ao c l ih =>
    intro d p
    have hL : ∀ (q : List VT), (∀ x ∈ q, x ∈ l) → ∀ d p, p ≤ 256 → (chkL q d p).1 = 0 → (chkL q d p).2 ≤ 256 := by
      intro q
      induction q with
      | nil => intro _ d p hp _; rw [chkL]; exact hp
      | cons x q ihq =>
        intro hq d p hp
        rw [chkL]
        by_cases h : (x.chk d p).1 = 0
        · rw [if_neg (not_not_intro h)]
          exact ihq (fun y hy => hq y (by simp [hy])) d _ (ih x (hq x (by simp)) d p h)
        · rw [if_pos h]
          intro h2; exact absurd h2 h
    rw [VT.chk]
    by_cases h1 : 256 < p + 1
    · rw [if_pos h1]; intro h; simp at h
    rw [if_neg h1]
    by_cases h2 : k = 0 ∨ k = 1
    · rw [if_pos h2]; intro _; dsimp only; omega
    rw [if_neg h2]
    by_cases h3 : k = 2
    · rw [if_pos h3]; intro _; dsimp only; omega
    rw [if_neg h3]
    by_cases h4 : k = 3
    · rw [if_pos h4]
      by_cases h5 : 8 ≤ d
      · rw [if_pos h5]; intro h; simp at h
      rw [if_neg h5]
      by_cases h6 : 64 < l.length
      · rw [if_pos h6]; intro h; simp at h
      rw [if_neg h6]
      exact hL l (fun x hx => hx) _ _ (by omega)
    · rw [if_neg h4]; intro h; simp at h
def CkRow (w : World) (b : Nat) (p : Nat) : Prop := w.heap[b]? = some (.cells #[.int .i64 (p : Int)] 119 (0, 0))
def CkPost (w : World) (b : Nat) (R : Int × Nat) (e : Ending) (w' : World) : Prop := e = .returned (.int .i64 R.1) ∧ Fr w w' b none ∧ CkRow w' b R.2
theorem CkRow.keep {w w' : World} {b p : Nat} (h : CkRow w b p) (hk : w'.heap[b]? = w.heap[b]?) : CkRow w' b p := hk.trans h
theorem CkRow.lt {w : World} {b p : Nat} (h : CkRow w b p) : b < w.heap.size := lt_of_rowW h
theorem Fr.nb {a w : World} {b : Nat} (h : Fr a w b none) {N : Nat} (hN : N ≤ b) (h2 : N ≤ a.heap.size) : ∀ k, k < N → w.heap[k]? = a.heap[k]? := fun k hk => h.block k (by omega) (by omega) (fun e => by cases e)
/-- What a checker does to a value, whatever it is called with. -/
def CkAny (x : VT) : Prop := ∀ (N b d p : Nat) (w : World), d ≤ 8 → p ≤ 256 → x.At N w → N ≤ w.heap.size → N ≤ b → CkRow w b p → Calls Tryz.prog 104 #[.pointer (some ⟨b, 0, none⟩), .agg x.cells.toArray, .int .i64 (d : Int)] w (CkPost w b (x.chk d p))
def ckRel (w : World) (b : Nat) (l : List VT) (d p : Nat) (i : Value) (wr : World) : Prop :=
  ∃ j q : Nat, i = .int .i64 (j : Int) ∧ j ≤ l.length ∧ q ≤ 256 ∧ chkL l d p = chkL (l.drop j) d q ∧ Fr w wr b none ∧ CkRow wr b q
set_option maxHeartbeats 4000000 in
set_option maxRecDepth 100000 in
theorem ckList_any (k n : Int) (s : List UInt8) (ao : Option Addr) (c : Nat) (l : List VT) (ih : ∀ x ∈ l, CkAny x) (N b d p : Nat) (w : World) (hd : d ≤ 8) (hp : p ≤ 256) (hv : (VT.mk k n s ao c l).At N w) (hN : N ≤ w.heap.size) (hb : N ≤ b) (hR : CkRow w b p) :
    Calls Tryz.prog 136 #[.pointer (some ⟨b, 0, none⟩), .slice ao l.length c, .int .i64 (d : Int)] w (CkPost w b (if 8 ≤ d then (30, p) else if 64 < l.length then (2, p) else chkL l (d + 1) p)) := by
  have hll := hv.fit.2.2.2
  have IH := Lib.hid ih
  have HV := Lib.hid hv
  have HR := Lib.hid hR
  have AM := Lib.hid (fun W => atMost_any (l.length : Int) 64 W)
  clear ih hv hR
  by_cases h8 : 8 ≤ d
  · rw [if_pos h8]
    have h8' : (8 : Int) ≤ (d : Int) := by omega
    go_enter Tryz.func136, Tryz.ntmps136
    go_wp2_with fail
    go_ret
    exact ⟨rfl, Fr.refl _ _ _, HR.out⟩
  rw [if_neg h8]
  have h8' : ¬ (8 : Int) ≤ (d : Int) := by omega
  by_cases h6 : 64 < l.length
  · rw [if_pos h6]
    have h6' : (64 : Int) < (l.length : Int) := by omega
    have AM2 := AM.out
    simp only [if_pos h6'] at AM2
    have AM3 := Lib.hid AM2
    clear AM2 AM
    go_enter Tryz.func136, Tryz.ntmps136
    go_wp2_with fail
    refine (AM3.out _).mono ?_
    rintro e w1 ⟨rfl, rfl⟩
    go_wp2_with fail
    go_ret
    exact ⟨rfl, Fr.refl _ _ _, HR.out⟩
  rw [if_neg h6]
  have h6' : ¬ (64 : Int) < (l.length : Int) := by omega
  have AM2 := AM.out
  simp only [if_neg h6'] at AM2
  have AM3 := Lib.hid AM2
  obtain ⟨R, hRR⟩ : ∃ R, R = chkL l (d + 1) p := ⟨_, rfl⟩
  rw [← hRR]
  have HRR := Lib.hid hRR
  have SZ := Lib.hid Tryz.valSize
  have SZ' := Lib.hid Tryz.valSize'
  have S4 := Lib.hid (show ∀ x : VT, 4 = x.cells.toArray.size from fun x => by rw [List.size_toArray, x.cells_len])
  have ed : (d : Int) + 1 = ((d + 1 : Nat) : Int) := rfl
  have hd1 : d + 1 ≤ 8 := by omega
  obtain ⟨d1, hd1e⟩ : ∃ d1, d1 = d + 1 := ⟨_, rfl⟩
  rw [← hd1e] at HRR ed hd1
  have ED := Lib.hid ed
  clear AM2 AM hRR hd1e ed
  go_enter Tryz.func136, Tryz.ntmps136
  go_wp2_with fail
  refine (AM3.out _).mono ?_
  rintro e w1 ⟨rfl, hw1⟩
  have hw1' := hw1.symm
  subst hw1'
  clear hw1
  go_wp2_with fail
  go_loopw [21] (fun i wr => ckRel w b l d1 p i wr) (fun i _ => l.length - (intOf i).toNat)
  case atStart => exact ⟨0, p, rfl, Nat.zero_le _, hp, rfl, Fr.refl _ _ _, HR.out⟩
  case round =>
    obtain ⟨wq, rfl⟩ : ∃ wq : World, wq = wr := ⟨_, rfl⟩
    obtain ⟨j, q, rfl, hj, hq, hch, hf, hrow⟩ := hrel
    have HF := Lib.hid hf
    have HC := Lib.hid hch
    have HROW := Lib.hid hrow
    clear hf hch hrow
    have q0 : (0 : Int) ≤ (j : Int) := by omega
    by_cases hjl : j < l.length
    · have q1 : (j : Int) < (l.length : Int) := by omega
      obtain ⟨x, hx⟩ : ∃ x, l[j]? = some x := ⟨_, List.getElem?_eq_getElem hjl⟩
      obtain ⟨hxv, ad, rfl, had, hxc⟩ := HV.out.elem hx
      have hdj : chkL (l.drop j) d1 q = if (x.chk d1 q).1 ≠ 0 then x.chk d1 q else chkL (l.drop (j + 1)) d1 (x.chk d1 q).2 := by
        rw [List.drop_eq_getElem_cons hjl]
        rw [List.getElem?_eq_getElem hjl] at hx
        injection hx with hx
        rw [hx, chkL]
      have nb := HF.out.nb hb hN
      obtain ⟨w2, hw2⟩ : ∃ w2, w2 = wq.alloc (.cells x.cells.toArray 26) := ⟨_, rfl⟩
      obtain ⟨g, hg⟩ : ∃ g, g = wq.heap.size := ⟨_, rfl⟩
      have hb2 : Below wq.heap.size wq w2 := by rw [hw2]; exact (Below.refl _ _).alloc (Nat.le_refl _) _
      have n2 : w2.heap[g]? = some (.cells x.cells.toArray 26 (0, 0)) := by rw [hw2, hg]; exact heap_alloc_new _ _
      have hrow2 : CkRow w2 b q := HROW.out.keep (hb2.block b HROW.out.lt)
      have hNq : N ≤ wq.heap.size := Nat.le_trans hN HF.out.size
      have CX := IH.out x (List.mem_of_getElem? hx) N b d1 q w2 hd1 hq (hxv.keep fun k hk => (hb2.block k (by omega)).trans (nb k hk)) (Nat.le_trans hNq hb2.size) hb hrow2
      have hcl := chk_le x d1 q
      obtain ⟨X, hX⟩ : ∃ X, X = x.chk d1 q := ⟨_, rfl⟩
      rw [← hX] at CX hdj hcl
      have KX := Lib.hid (hxc wq nb)
      have HDJ := Lib.hid hdj
      have HCX := Lib.hid CX
      have HCL := Lib.hid hcl
      have KD := Lib.hid (show ∀ (j : Nat) v, x.cells[j]? = some v → w2.cell? ((⟨g, 0, none⟩ : Addr).add j) = some v from fun j v hj => by
        rw [Addr.add_mid, Nat.zero_add, cell_of_rowW w2 g j _ _ _ n2]
        simpa using hj)
      have HF2 := Lib.hid (show Fr w w2 b none by rw [hw2]; exact HF.out.alloc _)
      have HW2 := Lib.hid hw2
      have HG := Lib.hid hg
      clear hxv hxc hdj hX CX had hx nb hw2 hg hb2 n2 hrow2 hcl
      go_wp2_with (first
        | (with_reducible show wpList _ _ _ _ _ _; refine wpList_load_allW rfl 26 (.tmp 23) rfl _ rfl x.cells _ KX.out Tryz.underlying26 rfl (SZ.out x) ?_)
        | (with_reducible show wpList _ _ _ _ _ _; refine wpList_store_newW rfl 26 (.tmp 9) (.tmp 24) rfl 26 _ x.cells.toArray rfl rfl (SZ'.out x) (by with_unfolding_all exact S4.out x) x.cells_one ?_; rw [← HW2.out, ← HG.out])
        | (with_reducible show wpList _ _ _ _ _ _; refine wpList_load_allW rfl 26 (.tmp 9) rfl ⟨g, 0, none⟩ rfl x.cells _ KD.out Tryz.underlying26 rfl (SZ.out x) ?_))
      rw [ED.out]
      refine HCX.out.mono ?_
      rintro e w3 ⟨rfl, hf3, hrow3⟩
      have HF3 := Lib.hid (HF2.out.trans (Or.inl rfl) hf3)
      have HROW3 := Lib.hid hrow3
      clear hf3 hrow3
      obtain ⟨ec, q2⟩ := X
      by_cases he : ec = 0
      · subst he
        have RL := Lib.hid (show ckRel w b l d1 p (.int .i64 ((j + 1 : Nat) : Int)) w3 from ⟨j + 1, q2, rfl, hjl, HCL.out rfl, HC.out.trans HDJ.out, HF3.out, HROW3.out⟩)
        go_wp2_with fail
        exact ⟨RL.out, by simp [intOf]; omega⟩
      · have hR : R = (ec, q2) := by rw [HRR.out, HC.out, HDJ.out, if_pos he]
        have RL := Lib.hid (show CkPost w b R (.returned (.int .i64 ec)) w3 by rw [hR]; exact ⟨rfl, HF3.out, HROW3.out⟩)
        clear hR
        go_wp2_with fail
        go_ret
        exact RL.out
    · have q1 : ¬ (j : Int) < (l.length : Int) := by omega
      have hR : R = (0, q) := by rw [HRR.out, HC.out, List.drop_of_length_le (by omega)]; rfl
      have RL := Lib.hid (show CkPost w b R (.returned (.int .i64 0)) wq by rw [hR]; exact ⟨rfl, HF.out, HROW.out⟩)
      clear hR
      go_wp2_with fail
      go_ret
      exact RL.out
set_option maxHeartbeats 4000000 in
set_option maxRecDepth 100000 in
theorem ck_any : ∀ v : VT, CkAny v := by
  intro v
  induction v using VT.ind with
  | h k n s ao c l ih =>
    intro N b d p w hd hp hv hN hb hR
    obtain ⟨hk, hn, hs, hll⟩ := hv.fit
    have CL := fun W p h1 h2 h3 h4 => ckList_any k n s ao c l ih N b d p W hd h1 h2 h3 hb h4
    obtain ⟨w1, hw1⟩ : ∃ w1, w1 = w.alloc (.cells (VT.mk k n s ao c l).cells.toArray 26) := ⟨_, rfl⟩
    obtain ⟨g, hg⟩ : ∃ g, g = w.heap.size := ⟨_, rfl⟩
    have hb1 : Below w.heap.size w w1 := by rw [hw1]; exact (Below.refl _ _).alloc (Nat.le_refl _) _
    have nk : w1.heap[g]? = some (.cells (VT.mk k n s ao c l).cells.toArray 26 (0, 0)) := by rw [hw1, hg]; exact heap_alloc_new _ _
    have hbg : b ≠ g := by have := hR.lt; omega
    have row1 : CkRow w1 b p := hR.keep (hb1.block b hR.lt)
    have c1 : w1.cell? ⟨b, 0, none⟩ = some (.int .i64 (p : Int)) := by rw [cell_of_rowW w1 b 0 _ _ _ row1]; rfl
    have f1 : w1.frozen? ⟨b, 0, none⟩ = false := frozen_of_row w1 b 0 _ _ row1
    obtain ⟨w2, hw2⟩ : ∃ w2, w2 = w1.setCell ⟨b, 0, none⟩ (.int .i64 ((p : Int) + 1)) := ⟨_, rfl⟩
    have row2 : CkRow w2 b (p + 1) := by rw [hw2]; exact Go.Joins.block_setCell (i := 0) row1 _
    have nk2 : w2.heap[g]? = some (.cells (VT.mk k n s ao c l).cells.toArray 26 (0, 0)) := by rw [hw2]; exact (Below.heap_setCell w1 ⟨b, 0, none⟩ _ g (Ne.symm hbg)).trans nk
    have hf2 : Fr w w2 b none := by rw [hw2, hw1]; exact ((Fr.refl w b none).alloc _).set 0 _
    have nb2 := hf2.nb hb hN
    have d0 : w2.cell? ⟨g, 0, none⟩ = some (.int .i64 k) := by rw [cell_of_rowW w2 g 0 _ _ _ nk2]; rfl
    have d2 : w2.cell? ⟨g, 2, none⟩ = some (.string (str s)) := by rw [cell_of_rowW w2 g 2 _ _ _ nk2]; rfl
    have d3 : w2.cell? ⟨g, 3, none⟩ = some (.slice ao l.length c) := by rw [cell_of_rowW w2 g 3 _ _ _ nk2]; rfl
    have e0 : w2.cell? ⟨b, 0, none⟩ = some (.int .i64 ((p : Int) + 1)) := by rw [cell_of_rowW w2 b 0 _ _ _ row2]; rfl
    have hsz := str_sizeX s
    have hch : (VT.mk k n s ao c l).chk d p = if 256 < p + 1 then (2, p + 1) else if k = 0 ∨ k = 1 then (0, p + 1) else if k = 2 then (if 256 < s.length then 2 else 0, p + 1) else if k = 3 then (if 8 ≤ d then (30, p + 1) else if 64 < l.length then (2, p + 1) else chkL l (d + 1) (p + 1)) else (9, p + 1) := by rw [VT.chk]
    obtain ⟨R, hRR⟩ : ∃ R, R = (VT.mk k n s ao c l).chk d p := ⟨_, rfl⟩
    rw [← hRR] at hch ⊢
    have done : ∀ ec : Int, R = (ec, p + 1) → CkPost w b R (.returned (.int .i64 ec)) w2 := fun ec h => by rw [h]; exact ⟨rfl, hf2, row2⟩
    have DONE := Lib.hid done
    have HCH := Lib.hid hch
    have HF2 := Lib.hid hf2
    have HW1 := Lib.hid (show w1 = w.alloc (.cells #[.int .i64 k, .int .i64 n, .string (str s), .slice ao l.length c] 26) from hw1)
    have HG := Lib.hid hg
    have HW2 := Lib.hid hw2
    have AM := Lib.hid (fun W => atMost_any (s.length : Int) 256 W)
    have LST := Lib.hid (fun h : p + 1 ≤ 256 => CL w2 (p + 1) h (hv.keep nb2) (Nat.le_trans hN hf2.size) row2)
    clear hb1 nk row1 row2 nk2 hf2 nb2 hch hRR done hw1 hg hw2 CL hv hR ih
    show Calls Tryz.prog 104 #[.pointer (some ⟨b, 0, none⟩), .agg #[.int .i64 k, .int .i64 n, .string (str s), .slice ao l.length c], .int .i64 (d : Int)] w _
    obtain ⟨S, hS⟩ : ∃ S, S = str s := ⟨_, rfl⟩
    rw [← hS] at HW1 d2 hsz ⊢
    have HSZ := Lib.hid hsz
    clear hS hsz
    go_enter Tryz.func104, Tryz.ntmps104
    go_upto_region 1 with fail
    rw [← HW1.out, ← HG.out]
    go_upto_region 2 with fail
    rw [← HW2.out]
    clear c1 f1
    by_cases h1 : 256 < p + 1
    · have r1 := DONE.out 2 (HCH.out.trans (if_pos h1))
      have h1' : (256 : Int) < (p : Int) + 1 := by omega
      have RL := Lib.hid r1
      clear r1
      go_wp2_with fail
      go_ret
      exact RL.out
    have h1' : ¬ (256 : Int) < (p : Int) + 1 := by omega
    have HC2 := Lib.hid (HCH.out.trans (if_neg h1))
    by_cases h00 : k = 0
    · have RL := Lib.hid (DONE.out 0 (HC2.out.trans (if_pos (Or.inl h00))))
      subst h00
      go_wp2_with fail
      go_ret
      exact RL.out
    by_cases h01 : k = 1
    · have RL := Lib.hid (DONE.out 0 (HC2.out.trans (if_pos (Or.inr h01))))
      subst h01
      go_wp2_with fail
      go_ret
      exact RL.out
    have HC3 := Lib.hid (HC2.out.trans (if_neg (by rintro (h | h); exact h00 h; exact h01 h)))
    by_cases h02 : k = 2
    · have RL := Lib.hid (DONE.out _ (HC3.out.trans (if_pos h02)))
      subst h02
      have AM2 := AM.out
      rw [← HSZ.out] at AM2
      by_cases h6 : 256 < s.length
      · have h6' : (256 : Int) < (S.size : Int) := by rw [HSZ.out]; omega
        simp only [if_pos h6'] at AM2
        have RL2 := RL.out
        rw [if_pos h6] at RL2
        have RL3 := Lib.hid RL2
        have AM3 := Lib.hid AM2
        clear AM2 RL2
        go_wp2_with fail
        refine (AM3.out _).mono ?_
        rintro e w3 ⟨rfl, hw3⟩
        have hw3' := hw3.symm
        subst hw3'
        clear hw3
        go_wp2_with fail
        go_ret
        exact RL3.out
      · have h6' : ¬ (256 : Int) < (S.size : Int) := by rw [HSZ.out]; omega
        simp only [if_neg h6'] at AM2
        have RL2 := RL.out
        rw [if_neg h6] at RL2
        have RL3 := Lib.hid RL2
        have AM3 := Lib.hid AM2
        clear AM2 RL2
        go_wp2_with fail
        refine (AM3.out _).mono ?_
        rintro e w3 ⟨rfl, hw3⟩
        have hw3' := hw3.symm
        subst hw3'
        clear hw3
        go_wp2_with fail
        go_ret
        exact RL3.out
    have HC4 := Lib.hid (HC3.out.trans (if_neg h02))
    by_cases h03 : k = 3
    · have hh := LST.out (by omega)
      rw [← HC4.out.trans (if_pos h03)] at hh
      have LS2 := Lib.hid hh
      subst h03
      clear hh
      go_wp2_with fail
      refine LS2.out.mono ?_
      rintro e w3 ⟨rfl, hf3, hrow3⟩
      have RL := Lib.hid (show CkPost w b R (.returned (.int .i64 R.1)) w3 from ⟨rfl, HF2.out.trans (Or.inl rfl) hf3, hrow3⟩)
      clear hf3 hrow3
      go_wp2_with fail
      go_ret
      exact RL.out
    · have RL := Lib.hid (DONE.out _ (HC4.out.trans (if_neg h03)))
      go_wp2_with fail
      go_ret
      exact RL.out
end Go.Proofs.YtnfobnnbeefeeaaGreatDoor.Wi
/- A value's bytes: written. -/
namespace Go.Proofs.YtnfobnnbeefeeaaGreatDoor.Wi
open Go Go.RowKit
set_option linter.unusedVariables false
set_option linter.unusedSimpArgs false
mutual
/-- A value's bytes. -/
def VT.vb : VT → List UInt8
  | .mk k n s ao c l => UInt8.ofNat k.toNat :: (if k = 1 then enc (zig n) else if k = 2 then enc s.length ++ s else if k = 3 then enc l.length ++ vbL l else [])
def vbL : List VT → List UInt8
  | [] => []
  | x :: l => x.vb ++ vbL l
end
mutual
/-- The kinds of a value, and of what is in it, are kinds. -/
def VT.Kin : VT → Prop
  | .mk k n s ao c l => (k = 0 ∨ k = 1 ∨ k = 2 ∨ k = 3) ∧ (k = 3 → KinL l)
def KinL : List VT → Prop
  | [] => True
  | x :: l => x.Kin ∧ KinL l
end
theorem kinL_mem : ∀ {l : List VT}, KinL l → ∀ x ∈ l, x.Kin
  | [], _, x, hx => by cases hx
  | y :: l, h, x, hx => by
    rw [KinL] at h
    rcases List.mem_cons.1 hx with rfl | hx
    · exact h.1
    · exact kinL_mem h.2 x hx
theorem kinL_of : ∀ {l : List VT}, (∀ x ∈ l, x.Kin) → KinL l
  | [], _ => by rw [KinL]; trivial
  | y :: l, h => by
    rw [KinL]
    exact ⟨h y (by simp), kinL_of fun x hx => h x (by simp [hx])⟩
theorem vbL_app : ∀ (a b : List VT), vbL (a ++ b) = vbL a ++ vbL b
  | [], b => by rw [vbL]; rfl
  | x :: a, b => by rw [List.cons_append, vbL, vbL, vbL_app a b, List.append_assoc]
theorem vbL_take {l : List VT} {j : Nat} {x : VT} (h : l[j]? = some x) : vbL (l.take (j + 1)) = vbL (l.take j) ++ x.vb := by
  rw [List.take_add_one, h, vbL_app]
  show _ ++ vbL [x] = _
  rw [vbL, vbL, List.append_nil]
theorem vbL_len (l : List VT) (j : Nat) : (vbL (l.take j)).length ≤ (vbL l).length := by
  have h := vbL_app (l.take j) (l.drop j)
  rw [List.take_append_drop] at h
  rw [h, List.length_append]
  omega
def WrAny (x : VT) : Prop := ∀ (N b : Nat) (r : Option Nat) (xs : List UInt8) (w : World), x.At N w → x.Kin → N ≤ w.heap.size → N ≤ b → (∀ g, r = some g → N ≤ g) → Wr w b r xs → xs.length + x.vb.length + 20 ≤ 140737488355328 →
  Calls Tryz.prog 105 #[.pointer (some ⟨b, 0, none⟩), .agg x.cells.toArray] w fun e w' => e = .returned (.tuple #[]) ∧ Wrote w w' b r (xs ++ x.vb)
def wvRel (w : World) (b : Nat) (r : Option Nat) (ys : List UInt8) (l : List VT) (i : Value) (wr : World) : Prop := ∃ j : Nat, i = .int .i64 (j : Int) ∧ j ≤ l.length ∧ Wrote w wr b r (ys ++ vbL (l.take j))
theorem Fr.nbR {a w : World} {b : Nat} {r : Option Nat} (h : Fr a w b r) {N : Nat} (hN : N ≤ b) (hr : ∀ g, r = some g → N ≤ g) (h2 : N ≤ a.heap.size) : ∀ k, k < N → w.heap[k]? = a.heap[k]? := fun k hk => h.block k (by omega) (by omega) (fun e => by have := hr k e.symm; omega)
set_option maxHeartbeats 8000000 in
set_option maxRecDepth 100000 in
theorem wrv_any : ∀ v : VT, WrAny v := by
  intro v
  induction v using VT.ind with
  | h k n s ao c l ih =>
    intro N b r xs w hv hkin hN hb hr hW hsz
    obtain ⟨hk, hn, hs, hll⟩ := hv.fit
    have hvb : (VT.mk k n s ao c l).vb = UInt8.ofNat k.toNat :: (if k = 1 then enc (zig n) else if k = 2 then enc s.length ++ s else if k = 3 then enc l.length ++ vbL l else []) := by rw [VT.vb]
    rw [VT.Kin] at hkin
    obtain ⟨w1, hw1⟩ : ∃ w1, w1 = w.alloc (.cells (VT.mk k n s ao c l).cells.toArray 26) := ⟨_, rfl⟩
    obtain ⟨g, hg⟩ : ∃ g, g = w.heap.size := ⟨_, rfl⟩
    have hb1 : Below w.heap.size w w1 := by rw [hw1]; exact (Below.refl _ _).alloc (Nat.le_refl _) _
    have nk : w1.heap[g]? = some (.cells (VT.mk k n s ao c l).cells.toArray 26 (0, 0)) := by rw [hw1, hg]; exact heap_alloc_new _ _
    have hbg : b ≠ g := by have := hW.lt; omega
    have hrg : r ≠ some g := fun e => by have := hW.rlt g e; omega
    have hf1 : Fr w w1 b r := by rw [hw1]; exact (Fr.refl w b r).alloc _
    have W1 : Wr w1 b r xs := by rw [hw1]; exact hW.alloc _
    have glt : g < w1.heap.size := lt_of_rowW nk
    have c0 : w1.cell? ⟨g, 0, none⟩ = some (.int .i64 k) := by rw [cell_of_rowW w1 g 0 _ _ _ nk]; rfl
    have h1 : xs.length + 21 ≤ 140737488355328 := by
      have : (VT.mk k n s ao c l).vb.length = (if k = 1 then enc (zig n) else if k = 2 then enc s.length ++ s else if k = 3 then enc l.length ++ vbL l else []).length + 1 := by rw [hvb]; rfl
      omega
    have KG := Lib.hid (show ∀ W, Fr w1 W b r → W.cell? ⟨g, 0, none⟩ = some (.int .i64 k) ∧ W.cell? ⟨g, 1, none⟩ = some (.int .i64 n) ∧ W.cell? ⟨g, 2, none⟩ = some (.string (str s)) ∧ W.cell? ⟨g, 3, none⟩ = some (.slice ao l.length c) from fun W hF => by
      have q := (hF.block g glt (Ne.symm hbg) (fun e => hrg e.symm)).trans nk
      exact ⟨by rw [cell_of_rowW W g 0 _ _ _ q]; rfl, by rw [cell_of_rowW W g 1 _ _ _ q]; rfl, by rw [cell_of_rowW W g 2 _ _ _ q]; rfl, by rw [cell_of_rowW W g 3 _ _ _ q]; rfl⟩)
    have BY := Lib.hid (fun (x : Int) (y : UInt8) (hx : x = (y.toNat : Int)) => byte_one W1 w1.heap.size rfl x y hx (by omega))
    have HF1 := Lib.hid hf1
    have HW1 := Lib.hid (show w1 = w.alloc (.cells #[.int .i64 k, .int .i64 n, .string (str s), .slice ao l.length c] 26) from hw1)
    have HG := Lib.hid hg
    have HV := Lib.hid hv
    have HR := Lib.hid hr
    have IH := Lib.hid ih
    have HNs : N ≤ w1.heap.size := Nat.le_trans hN hb1.size
    clear hb1 nk hf1 W1 hbg hrg glt hw1 hg hv hr ih hW
    show Calls Tryz.prog 105 #[.pointer (some ⟨b, 0, none⟩), .agg #[.int .i64 k, .int .i64 n, .string (str s), .slice ao l.length c]] w _
    rcases hkin with ⟨rfl | rfl | rfl | rfl, hkl⟩
    · have e : (VT.mk 0 n s ao c l).vb = [0] := hvb
      rw [e]
      clear hvb e hsz hkl
      go_enter Tryz.func105, Tryz.ntmps105
      go_upto_region 1 with fail
      rw [← HW1.out, ← HG.out]
      go_wp2_with fail
      refine (BY.out 0 0 rfl).mono ?_
      rintro e w2 ⟨rfl, hw2⟩
      have HW2 := Lib.hid hw2
      obtain ⟨r2, hWr2, hf2, hr2⟩ := hw2
      have c2 := (KG.out w2 hf2).1
      clear hWr2 hf2 hr2 c0
      go_wp2_with fail
      go_end0
      exact ⟨rfl, Wrote.trans (xs := xs) HF1.out (Or.inl rfl) HW2.out⟩
    · have e : (VT.mk 1 n s ao c l).vb = 1 :: enc (zig n) := hvb
      rw [e]
      clear hvb e hkl
      go_enter Tryz.func105, Tryz.ntmps105
      go_upto_region 1 with fail
      rw [← HW1.out, ← HG.out]
      go_wp2_with fail
      refine (BY.out 1 1 rfl).mono ?_
      rintro e w2 ⟨rfl, hw2⟩
      obtain ⟨r2, hWr2, hf2, hr2⟩ := hw2
      obtain ⟨c2, c3, _, _⟩ := KG.out w2 hf2
      have IN := int_one hWr2 w2.heap.size rfl n hn.1 hn.2 (by simp; omega)
      have HIN := Lib.hid IN
      have HF2 := Lib.hid (HF1.out.trans (Or.inl rfl) hf2)
      have HR2 := Lib.hid (show r2 = r ∨ ∃ g, r2 = some g ∧ w.heap.size ≤ g from by
        rcases hr2 with h | ⟨q, h, h'⟩
        · exact Or.inl h
        · exact Or.inr ⟨q, h, Nat.le_trans HF1.out.size h'⟩)
      clear hWr2 hf2 hr2 c0 IN
      go_wp2_with fail
      refine HIN.out.mono ?_
      rintro e w3 ⟨rfl, hw3⟩
      have HW3 := Lib.hid (Wrote.trans (xs := xs) HF2.out HR2.out hw3)
      clear hw3
      go_wp2_with fail
      go_end0
      exact ⟨rfl, by have h := HW3.out; rw [List.append_assoc] at h; exact h⟩
    · have e : (VT.mk 2 n s ao c l).vb = 2 :: (enc s.length ++ s) := hvb
      rw [e] at hsz ⊢
      have hsz2 : xs.length + 1 + 10 + s.length ≤ 140737488355328 := by simp at hsz; omega
      clear hvb e hkl hsz
      go_enter Tryz.func105, Tryz.ntmps105
      go_upto_region 1 with fail
      rw [← HW1.out, ← HG.out]
      go_wp2_with fail
      refine (BY.out 2 2 rfl).mono ?_
      rintro e w2 ⟨rfl, hw2⟩
      obtain ⟨r2, hWr2, hf2, hr2⟩ := hw2
      obtain ⟨c2, _, c3, _⟩ := KG.out w2 hf2
      have IN := wtext_any hWr2 (str s) (by rw [str_sizeX]; simp; omega)
      rw [str_sizeX, show (str s).data.toList = s by simp [str]] at IN
      have HIN := Lib.hid IN
      have HF2 := Lib.hid (HF1.out.trans (Or.inl rfl) hf2)
      have HR2 := Lib.hid (show r2 = r ∨ ∃ g, r2 = some g ∧ w.heap.size ≤ g from by
        rcases hr2 with h | ⟨q, h, h'⟩
        · exact Or.inl h
        · exact Or.inr ⟨q, h, Nat.le_trans HF1.out.size h'⟩)
      clear hWr2 hf2 hr2 c0 IN
      go_wp2_with fail
      refine HIN.out.mono ?_
      rintro e w3 ⟨rfl, hw3⟩
      have HW3 := Lib.hid (Wrote.trans (xs := xs) HF2.out HR2.out hw3)
      clear hw3
      go_wp2_with fail
      go_end0
      exact ⟨rfl, by have h := HW3.out; simp only [List.append_assoc] at h; exact h⟩
    · have e : (VT.mk 3 n s ao c l).vb = 3 :: (enc l.length ++ vbL l) := hvb
      rw [e] at hsz ⊢
      have hel := enc_length l.length
      have hsz2 : xs.length + 1 + (enc l.length).length + (vbL l).length + 20 ≤ 140737488355328 := by simp at hsz; omega
      have KL := Lib.hid (kinL_mem (hkl rfl))
      have SZ := Lib.hid Tryz.valSize
      have SZ' := Lib.hid Tryz.valSize'
      have S4 := Lib.hid (show ∀ x : VT, 4 = x.cells.toArray.size from fun x => by rw [List.size_toArray, x.cells_len])
      clear hvb e hkl hsz
      go_enter Tryz.func105, Tryz.ntmps105
      go_upto_region 1 with fail
      rw [← HW1.out, ← HG.out]
      go_wp2_with fail
      refine (BY.out 3 3 rfl).mono ?_
      rintro e w2 ⟨rfl, hw2⟩
      obtain ⟨r2, hWr2, hf2, hr2⟩ := hw2
      obtain ⟨c2, _, _, c3⟩ := KG.out w2 hf2
      have NU := num_one hWr2 w2.heap.size rfl (l.length : Int) l.length rfl (by omega) (by simp; omega)
      have HNU := Lib.hid NU
      have HF2' := Lib.hid hf2
      have HF2 := Lib.hid (HF1.out.trans (Or.inl rfl) hf2)
      have HR2 := Lib.hid (show r2 = r ∨ ∃ g, r2 = some g ∧ w.heap.size ≤ g from by
        rcases hr2 with h | ⟨q, h, h'⟩
        · exact Or.inl h
        · exact Or.inr ⟨q, h, Nat.le_trans HF1.out.size h'⟩)
      have HR2' := Lib.hid hr2
      clear hWr2 hf2 hr2 c0 NU
      go_wp2_with fail
      refine HNU.out.mono ?_
      rintro e w3 ⟨rfl, hw3⟩
      obtain ⟨r3, hWr3, hf3, hr3⟩ := hw3
      have c4 := (KG.out w3 (HF2'.out.trans HR2'.out hf3)).2.2.2
      have hr0 : Wrote w w3 b r (xs ++ [3] ++ enc l.length ++ vbL (l.take 0)) := by
        have h := Wrote.trans (xs := xs) HF2.out HR2.out ⟨r3, hWr3, hf3, hr3⟩
        have e0 : vbL (l.take 0) = [] := by rw [List.take_zero, vbL]
        rw [e0, List.append_nil]
        exact h
      have R0 := Lib.hid (show wvRel w b r (xs ++ [3] ++ enc l.length) l (.int .i64 0) w3 from ⟨0, rfl, Nat.zero_le _, hr0⟩)
      clear hr0
      clear hWr3 hf3 hr3 c2 c3
      go_wp2_with fail
      go_loopw [39] (fun i wr => wvRel w b r (xs ++ [3] ++ enc l.length) l i wr) (fun i _ => l.length - (intOf i).toNat)
      case atStart => exact R0.out
      case round =>
        obtain ⟨wq, rfl⟩ : ∃ wq : World, wq = wr := ⟨_, rfl⟩
        obtain ⟨j, rfl, hj, r4, hWr4, hf4, hr4⟩ := hrel
        have HW4 := Lib.hid hWr4
        have HF4 := Lib.hid hf4
        have HR4 := Lib.hid hr4
        clear hWr4 hf4 hr4 R0 c4
        have q0 : (0 : Int) ≤ (j : Int) := by omega
        by_cases hjl : j < l.length
        · have q1 : (j : Int) < (l.length : Int) := by omega
          obtain ⟨x, hx⟩ : ∃ x, l[j]? = some x := ⟨_, List.getElem?_eq_getElem hjl⟩
          obtain ⟨hxv, ad, rfl, had, hxc⟩ := HV.out.elem hx
          have nb := HF4.out.nbR hb HR.out hN
          have hNq : N ≤ wq.heap.size := Nat.le_trans hN HF4.out.size
          have htk := vbL_take hx
          have hlen := vbL_len l (j + 1)
          rw [htk, List.length_append] at hlen
          obtain ⟨w5, hw5⟩ : ∃ w5, w5 = wq.alloc (.cells x.cells.toArray 26) := ⟨_, rfl⟩
          obtain ⟨d, hd⟩ : ∃ d, d = wq.heap.size := ⟨_, rfl⟩
          have hb5 : Below wq.heap.size wq w5 := by rw [hw5]; exact (Below.refl _ _).alloc (Nat.le_refl _) _
          have n5 : w5.heap[d]? = some (.cells x.cells.toArray 26 (0, 0)) := by rw [hw5, hd]; exact heap_alloc_new _ _
          have hr4N : ∀ g, r4 = some g → N ≤ g := fun q e => by
            rcases HR4.out with h | ⟨q', h, h'⟩
            · exact HR.out q (by rw [← h]; exact e)
            · rw [e] at h; injection h with h; omega
          have CX := IH.out x (List.mem_of_getElem? hx) N b r4 (xs ++ [3] ++ enc l.length ++ vbL (l.take j)) w5 (hxv.keep fun k hk => (hb5.block k (by omega)).trans (nb k hk)) (KL.out x (List.mem_of_getElem? hx)) (Nat.le_trans hNq hb5.size) hb hr4N (by rw [hw5]; exact HW4.out.alloc _) (by simp only [List.length_append, List.length_cons, List.length_nil]; omega)
          rw [List.append_assoc _ (vbL (l.take j)), ← htk] at CX
          have KX := Lib.hid (hxc wq nb)
          have HCX := Lib.hid CX
          have KD := Lib.hid (show ∀ (j : Nat) v, x.cells[j]? = some v → w5.cell? ((⟨d, 0, none⟩ : Addr).add j) = some v from fun j v hj => by
            rw [Addr.add_mid, Nat.zero_add, cell_of_rowW w5 d j _ _ _ n5]
            simpa using hj)
          have HF5 := Lib.hid (show Fr w w5 b r by rw [hw5]; exact HF4.out.alloc _)
          have HW5 := Lib.hid hw5
          have HD := Lib.hid hd
          clear hxv hxc CX had hx nb hw5 hd hb5 n5 htk hlen hr4N
          go_wp2_with (first
            | (with_reducible show wpList _ _ _ _ _ _; refine wpList_load_allW rfl 26 (.tmp 41) rfl _ rfl x.cells _ KX.out Tryz.underlying26 rfl (SZ.out x) ?_)
            | (with_reducible show wpList _ _ _ _ _ _; refine wpList_store_newW rfl 26 (.tmp 5) (.tmp 42) rfl 26 _ x.cells.toArray rfl rfl (SZ'.out x) (by with_unfolding_all exact S4.out x) x.cells_one ?_; rw [← HW5.out, ← HD.out])
            | (with_reducible show wpList _ _ _ _ _ _; refine wpList_load_allW rfl 26 (.tmp 5) rfl ⟨d, 0, none⟩ rfl x.cells _ KD.out Tryz.underlying26 rfl (SZ.out x) ?_))
          refine HCX.out.mono ?_
          rintro e w6 ⟨rfl, hw6⟩
          have RL := Lib.hid (show wvRel w b r (xs ++ [3] ++ enc l.length) l (.int .i64 ((j + 1 : Nat) : Int)) w6 from ⟨j + 1, rfl, hjl, Wrote.trans (xs := xs) HF5.out HR4.out hw6⟩)
          clear hw6
          go_wp2_with fail
          exact ⟨RL.out, by simp [intOf]; omega⟩
        · have q1 : ¬ (j : Int) < (l.length : Int) := by omega
          have RL := Lib.hid (show Wrote w wq b r (xs ++ 3 :: (enc l.length ++ vbL l)) from by
            have h : Wrote w wq b r (xs ++ [3] ++ enc l.length ++ vbL (l.take j)) := ⟨r4, HW4.out, HF4.out, HR4.out⟩
            rw [List.take_of_length_le (by omega)] at h
            simpa using h)
          go_wp2_with fail
          go_end0
          exact ⟨rfl, RL.out⟩
end Go.Proofs.YtnfobnnbeefeeaaGreatDoor.Wi
/- Check, Encode, Write, and the small ones. -/
namespace Go.Proofs.YtnfobnnbeefeeaaGreatDoor.Wi
open Go Go.RowKit
set_option linter.unusedVariables false
set_option linter.unusedSimpArgs false
theorem chk_ok : ∀ (v : VT) (d p : Nat), (v.chk d p).1 = 0 → v.Kin ∧ v.vb.length + 267 * p ≤ 267 * (v.chk d p).2 := by
  intro v
  induction v using VT.ind with
  | h k n s ao c l ih =>
    intro d p
    have hL : ∀ (q : List VT), (∀ x ∈ q, x ∈ l) → ∀ d p, (chkL q d p).1 = 0 → KinL q ∧ (vbL q).length + 267 * p ≤ 267 * (chkL q d p).2 := by
      intro q
      induction q with
      | nil => intro _ d p _; rw [chkL, KinL, vbL]; exact ⟨trivial, by simp⟩
      | cons x q ihq =>
        intro hq d p
        rw [chkL]
        by_cases h : (x.chk d p).1 = 0
        · rw [if_neg (not_not_intro h)]
          intro h2
          obtain ⟨a1, a2⟩ := ih x (hq x (by simp)) d p h
          obtain ⟨b1, b2⟩ := ihq (fun y hy => hq y (by simp [hy])) d _ h2
          rw [KinL, vbL, List.length_append]
          exact ⟨⟨a1, b1⟩, by omega⟩
        · rw [if_pos h]
          intro h2; exact absurd h2 h
    rw [VT.chk, VT.Kin, VT.vb]
    by_cases h1 : 256 < p + 1
    · rw [if_pos h1]; intro h; simp at h
    rw [if_neg h1]
    by_cases h2 : k = 0 ∨ k = 1
    · rw [if_pos h2]
      intro _
      have he := enc_length (zig n)
      rcases h2 with rfl | rfl
      · refine ⟨⟨Or.inl rfl, fun h => by omega⟩, ?_⟩
        simp
        omega
      · refine ⟨⟨Or.inr (Or.inl rfl), fun h => by omega⟩, ?_⟩
        simp
        omega
    rw [if_neg h2]
    by_cases h3 : k = 2
    · rw [if_pos h3]
      intro h
      have he := enc_length s.length
      have hs : s.length ≤ 256 := by
        by_cases h4 : 256 < s.length
        · rw [if_pos h4] at h; simp at h
        · omega
      subst h3
      refine ⟨⟨Or.inr (Or.inr (Or.inl rfl)), fun h => by omega⟩, ?_⟩
      simp
      omega
    rw [if_neg h3]
    by_cases h4 : k = 3
    · rw [if_pos h4]
      by_cases h5 : 8 ≤ d
      · rw [if_pos h5]; intro h; simp at h
      rw [if_neg h5]
      by_cases h6 : 64 < l.length
      · rw [if_pos h6]; intro h; simp at h
      rw [if_neg h6]
      intro h
      obtain ⟨a1, a2⟩ := hL l (fun x hx => hx) _ _ h
      have he := enc_length l.length
      subst h4
      refine ⟨⟨Or.inr (Or.inr (Or.inr rfl)), fun _ => a1⟩, ?_⟩
      simp
      omega
    · rw [if_neg h4]; intro h; simp at h
/-- The error of a value. -/
def VT.vE (v : VT) : Int := if (v.chk 0 0).1 ≠ 0 then (v.chk 0 0).1 else if 512 < v.vb.length then 2 else 0
theorem vE_ok {v : VT} (h : v.vE = 0) : (v.chk 0 0).1 = 0 ∧ v.vb.length ≤ 512 := by
  unfold VT.vE at h
  by_cases h1 : (v.chk 0 0).1 = 0
  · rw [if_neg (not_not_intro h1)] at h
    by_cases h2 : 512 < v.vb.length
    · rw [if_pos h2] at h; simp at h
    · exact ⟨h1, by omega⟩
  · rw [if_pos h1] at h; exact absurd h h1
theorem own_base {w : World} {B C : Nat} {e : TypeId} {size n : Nat} {v : Value} {xs : List Value} (h : w.ownsRow B e size v n xs) (hC : C ≤ B) : w.ownsRow C e size v n xs := by
  refine ⟨h.1, ?_⟩
  rcases h.2 with h0 | ⟨g, cap, cur, rfl, hB, r⟩
  · exact .inl h0
  · exact .inr ⟨g, cap, cur, rfl, Nat.le_trans hC hB, r⟩
theorem fr_new {w0 w w' : World} {b : Nat} {r : Option Nat} {C : Nat} (hb : Below C w0 w) (hC : C ≤ w.heap.size) (hF : Fr w w' b r) (hbb : C ≤ b) (hr : ∀ g, r = some g → C ≤ g) : Below C w0 w' := hb.trans (hF.below hC hbb hr)
set_option maxHeartbeats 4000000 in
set_option maxRecDepth 100000 in
theorem vcheck_any (v : VT) (N : Nat) (w : World) (hv : v.At N w) (hN : N ≤ w.heap.size) : Calls Tryz.prog 68 #[.agg v.cells.toArray] w fun e w' => e = .returned (.int .i64 v.vE) ∧ Below w.heap.size w w' := by
  obtain ⟨R, hR⟩ : ∃ R, R = v.vE := ⟨_, rfl⟩
  rw [← hR]
  unfold VT.vE at hR
  obtain ⟨w1, hw1⟩ : ∃ w1, w1 = w.alloc (.cells v.cells.toArray 26) := ⟨_, rfl⟩
  obtain ⟨g, hg⟩ : ∃ g, g = w.heap.size := ⟨_, rfl⟩
  have hb1 : Below w.heap.size w w1 := by rw [hw1]; exact (Below.refl _ _).alloc (Nat.le_refl _) _
  have n1 : w1.heap[g]? = some (.cells v.cells.toArray 26 (0, 0)) := by rw [hw1, hg]; exact heap_alloc_new _ _
  obtain ⟨w2, hw2⟩ : ∃ w2, w2 = w1.alloc (.cells #[.int .i64 0] 119) := ⟨_, rfl⟩
  obtain ⟨b, hbq⟩ : ∃ b, b = w1.heap.size := ⟨_, rfl⟩
  have hb12 : Below w1.heap.size w1 w2 := by rw [hw2]; exact (Below.refl _ _).alloc (Nat.le_refl _) _
  have hb2 : Below w.heap.size w w2 := hb1.trans (hb12.mono hb1.size)
  have row2 : CkRow w2 b 0 := by rw [hw2, hbq]; exact heap_alloc_new _ _
  have n2 := (hb12.block g (lt_of_rowW n1)).trans n1
  have hgb : g ≠ b := by have := lt_of_rowW n1; omega
  have hgN : N ≤ b := by have := hb1.size; omega
  have hgg : w.heap.size ≤ b := by have := hb1.size; omega
  have CK := ck_any v N b 0 0 w2 (by decide) (by decide) (hv.below (hb2.mono hN)) (Nat.le_trans hN hb2.size) hgN row2
  rw [show ((0 : Nat) : Int) = 0 from rfl] at CK
  have K2 := Lib.hid (show ∀ W : World, W.heap[g]? = some (.cells v.cells.toArray 26 (0, 0)) → ∀ (j : Nat) u, v.cells[j]? = some u → W.cell? ((⟨g, 0, none⟩ : Addr).add j) = some u from fun W h j u hj => by
    rw [Addr.add_mid, Nat.zero_add, cell_of_rowW W g j _ _ _ h]
    simpa using hj)
  have hok := chk_ok v 0 0
  have hle := chk_le v 0 0
  have SZ := Lib.hid Tryz.valSize
  have HCK := Lib.hid CK
  have HB2 := Lib.hid hb2
  have HN2 := Lib.hid n2
  have HW1 := Lib.hid hw1
  have HG := Lib.hid hg
  have HW2 := Lib.hid hw2
  have HBQ := Lib.hid hbq
  have HV := Lib.hid hv
  have HR := Lib.hid hR
  have HGB := Lib.hid hgb
  have HGG := Lib.hid hgg
  have KD := Lib.hid (K2.out w2 n2)
  have HOK := Lib.hid hok
  have HLE := Lib.hid hle
  clear hR hw1 hg hb1 n1 hw2 hbq hb12 hb2 row2 n2 hgb CK hv hgg hok hle
  go_enter Tryz.func68, Tryz.ntmps68
  go_upto_region 1 with fail
  rw [← HW1.out, ← HG.out]
  go_upto_region 2 with fail
  rw [← HW2.out, ← HBQ.out]
  go_wp2_with (with_reducible show wpList _ _ _ _ _ _; refine wpList_load_allW rfl 26 (.tmp 1) rfl ⟨g, 0, none⟩ rfl v.cells _ KD.out Tryz.underlying26 rfl (SZ.out v) ?_)
  refine HCK.out.mono ?_
  rintro e w3 ⟨rfl, hf3, hrow3⟩
  obtain ⟨ec, hec⟩ : ∃ ec, ec = (v.chk 0 0).1 := ⟨_, rfl⟩
  rw [← hec]
  have HF3 := Lib.hid hf3
  have HB3 := Lib.hid (fr_new HB2.out HB2.out.size hf3 HGG.out (fun q e => by cases e))
  have n3 := (hf3.block g (lt_of_rowW HN2.out) HGB.out (fun e => by cases e)).trans HN2.out
  have HN3 := Lib.hid n3
  have HEC := Lib.hid hec
  clear hf3 hrow3 n3 hec
  by_cases he : ec = 0
  · subst he
    have hr := HR.out
    rw [← HEC.out, if_neg (by decide)] at hr
    have HR2 := Lib.hid hr
    have hkin := HOK.out HEC.out.symm
    have hle := HLE.out HEC.out.symm
    obtain ⟨w4, hw4⟩ : ∃ w4, w4 = w3.alloc (.cells #[.slice none 0 0] 93) := ⟨_, rfl⟩
    obtain ⟨q, hq⟩ : ∃ q, q = w3.heap.size := ⟨_, rfl⟩
    have hb4 : Below w3.heap.size w3 w4 := by rw [hw4]; exact (Below.refl _ _).alloc (Nat.le_refl _) _
    have W4 : Wr w4 q none [] := by rw [hw4, hq]; exact Wr.new w3
    have hN3 : N ≤ w3.heap.size := Nat.le_trans hN HB3.out.size
    have WV := wrv_any v N q none [] w4 (HV.out.below ((HB3.out.trans (hb4.mono HB3.out.size)).mono hN)) hkin.1 (Nat.le_trans hN3 hb4.size) (by omega) (fun q e => by cases e) W4 (by
      have := hkin.2
      simp only [List.length_nil]
      omega)
    rw [List.nil_append] at WV
    have HWV := Lib.hid WV
    have hn4 := (hb4.block g (lt_of_rowW HN3.out)).trans HN3.out
    have KD4 := Lib.hid (K2.out w4 hn4)
    have HB4 := Lib.hid (HB3.out.trans (hb4.mono HB3.out.size))
    have HW4 := Lib.hid hw4
    have HQ := Lib.hid hq
    have HQW := Lib.hid (show w.heap.size ≤ q by have := HB3.out.size; omega)
    clear hr hkin hle hw4 hq hb4 W4 WV hn4 KD
    go_upto_region 6 with fail
    rw [← HW4.out, ← HQ.out]
    go_wp2_with (with_reducible show wpList _ _ _ _ _ _; refine wpList_load_allW rfl 26 (.tmp 1) rfl ⟨g, 0, none⟩ rfl v.cells _ KD4.out Tryz.underlying26 rfl (SZ.out v) ?_)
    refine HWV.out.mono ?_
    rintro e w5 ⟨rfl, r5, hW5, hf5, hr5⟩
    have HB5 := Lib.hid (fr_new HB4.out HB4.out.size hf5 HQW.out (fun q e => by cases e))
    have LE := Lib.hid (len_any hW5)
    obtain ⟨L, hL⟩ : ∃ L, L = v.vb.length := ⟨_, rfl⟩
    rw [← hL] at LE HR2
    clear hW5 hf5 hr5 hL
    go_wp2_with fail
    refine LE.out.mono ?_
    rintro e w6 ⟨rfl, h6⟩
    subst h6
    by_cases h5 : 512 < L
    · have hr := HR2.out.trans (if_pos h5)
      have h5' : (512 : Int) < (L : Int) := by omega
      subst hr
      go_wp2_with fail
      go_ret
      exact ⟨rfl, HB5.out⟩
    · have hr := HR2.out.trans (if_neg h5)
      have h5' : ¬ (512 : Int) < (L : Int) := by omega
      subst hr
      go_wp2_with fail
      go_ret
      exact ⟨rfl, HB5.out⟩
  · have hr := HR.out
    rw [← HEC.out, if_pos he] at hr
    subst hr
    clear KD
    go_wp2_with fail
    go_ret
    exact ⟨rfl, HB3.out⟩
def EncPost (w : World) (v : VT) (e : Ending) (w' : World) : Prop :=
  Below w.heap.size w w' ∧ if v.vE = 0 then ∃ ao c, e = .returned (.tuple #[.slice ao v.vb.length c, .int .i64 0]) ∧ w'.ownsRow w.heap.size 5 1 (.slice ao v.vb.length c) v.vb.length (bvs v.vb) else e = .returned (.tuple #[.slice none 0 0, .int .i64 v.vE])
theorem vwrite_any (v : VT) (N b : Nat) (r : Option Nat) (xs : List UInt8) (w : World) (hv : v.At N w) (hkin : v.Kin) (hd : v.dpr 65536 = false) (hN : N ≤ w.heap.size) (hb : N ≤ b) (hr : ∀ g, r = some g → N ≤ g) (hW : Wr w b r xs) (hsz : xs.length + v.vb.length + 20 ≤ 140737488355328) :
    Calls Tryz.prog 109 #[.pointer (some ⟨b, 0, none⟩), .agg v.cells.toArray] w fun e w' => e = .returned (.tuple #[]) ∧ Wrote w w' b r (xs ++ v.vb) := by
  obtain ⟨w1, hw1⟩ : ∃ w1, w1 = w.alloc (.cells v.cells.toArray 26) := ⟨_, rfl⟩
  obtain ⟨g, hg⟩ : ∃ g, g = w.heap.size := ⟨_, rfl⟩
  have hb1 : Below w.heap.size w w1 := by rw [hw1]; exact (Below.refl _ _).alloc (Nat.le_refl _) _
  have n1 : w1.heap[g]? = some (.cells v.cells.toArray 26 (0, 0)) := by rw [hw1, hg]; exact heap_alloc_new _ _
  have EN := endless_any v N w1 (hv.below (hb1.mono hN)) (Nat.le_trans hN hb1.size)
  rw [hd] at EN
  have K2 := Lib.hid (show ∀ W : World, W.heap[g]? = some (.cells v.cells.toArray 26 (0, 0)) → ∀ (j : Nat) u, v.cells[j]? = some u → W.cell? ((⟨g, 0, none⟩ : Addr).add j) = some u from fun W h j u hj => by
    rw [Addr.add_mid, Nat.zero_add, cell_of_rowW W g j _ _ _ h]
    simpa using hj)
  have SZ := Lib.hid Tryz.valSize
  have KD := Lib.hid (K2.out w1 n1)
  have HEN := Lib.hid EN
  have HB1 := Lib.hid hb1
  have HN1 := Lib.hid n1
  have HW1 := Lib.hid hw1
  have HG := Lib.hid hg
  have HV := Lib.hid hv
  have HW := Lib.hid hW
  have HRr := Lib.hid hr
  have HKN := Lib.hid hkin
  clear hw1 hg hb1 n1 EN hv hW hr hkin hd
  go_enter Tryz.func109, Tryz.ntmps109
  go_upto_region 1 with fail
  rw [← HW1.out, ← HG.out]
  go_wp2_with (with_reducible show wpList _ _ _ _ _ _; refine wpList_load_allW rfl 26 (.tmp 3) rfl ⟨g, 0, none⟩ rfl v.cells _ KD.out Tryz.underlying26 rfl (SZ.out v) ?_)
  refine HEN.out.mono ?_
  rintro e w2 ⟨rfl, hb2⟩
  have hb12 := HB1.out.trans (hb2.mono HB1.out.size)
  have KD2 := Lib.hid (K2.out w2 ((hb2.block g (lt_of_rowW HN1.out)).trans HN1.out))
  have WV := wrv_any v N b r xs w2 (HV.out.below (hb12.mono hN)) HKN.out (Nat.le_trans hN hb12.size) hb HRr.out (HW.out.later hb12) hsz
  have HWV := Lib.hid WV
  have HB2 := Lib.hid hb12
  clear hb2 hb12 WV KD
  go_wp2_with (with_reducible show wpList _ _ _ _ _ _; refine wpList_load_allW rfl 26 (.tmp 3) rfl ⟨g, 0, none⟩ rfl v.cells _ KD2.out Tryz.underlying26 rfl (SZ.out v) ?_)
  refine HWV.out.mono ?_
  rintro e w3 ⟨rfl, hw3⟩
  have HW3 := Lib.hid (Wrote.trans (xs := xs) (show Fr w w2 b r from ⟨HB2.out.os, HB2.out.tape, HB2.out.output, HB2.out.size, fun k hk _ _ => HB2.out.block k hk⟩) (Or.inl rfl) hw3)
  clear hw3
  go_wp2_with fail
  go_end0
  exact ⟨rfl, HW3.out⟩
end Go.Proofs.YtnfobnnbeefeeaaGreatDoor.Wi
/- compare: its theory, and its walk. -/
namespace Go.Proofs.YtnfobnnbeefeeaaGreatDoor.Wi
open Go Go.RowKit
set_option linter.unusedVariables false
set_option linter.unusedSimpArgs false
def icmp (a b : Int) : Int := if a < b then -1 else if b < a then 1 else 0
theorem cmpInt_any (a b : Int) (w : World) : Calls Tryz.prog 158 #[.int .i64 a, .int .i64 b] w fun e w' => e = .returned (.int .i64 (icmp a b)) ∧ w' = w := by
  have nan : ∀ (a : Int) (w : World), Calls Tryz.prog 173 #[.int .i64 a] w fun e w' => e = .returned (.bool false) ∧ w' = w := by
    intro a w
    go_enter Tryz.func173, Tryz.ntmps173
    go_wp2
    go_ret
    simp
  have NA := Lib.hid nan
  clear nan
  have arm : ∀ r : Int, icmp a b = r → (a < b ∨ ¬ a < b) → (b < a ∨ ¬ b < a) → True := fun _ _ _ _ => trivial
  by_cases h1 : a < b
  · rw [show icmp a b = -1 from if_pos h1]
    clear arm
    go_enter Tryz.func158, Tryz.ntmps158
    go_wp2_with fail
    refine (NA.out _ _).mono ?_
    rintro e w1 ⟨rfl, rfl⟩
    go_wp2_with fail
    refine (NA.out _ _).mono ?_
    rintro e w1 ⟨rfl, rfl⟩
    go_wp2_with fail
    go_ret
    exact ⟨rfl, rfl⟩
  · by_cases h2 : b < a
    · rw [show icmp a b = 1 by unfold icmp; rw [if_neg h1, if_pos h2]]
      clear arm
      go_enter Tryz.func158, Tryz.ntmps158
      go_wp2_with fail
      refine (NA.out _ _).mono ?_
      rintro e w1 ⟨rfl, rfl⟩
      go_wp2_with fail
      refine (NA.out _ _).mono ?_
      rintro e w1 ⟨rfl, rfl⟩
      go_wp2_with fail
      go_ret
      exact ⟨rfl, rfl⟩
    · rw [show icmp a b = 0 by unfold icmp; rw [if_neg h1, if_neg h2]]
      clear arm
      go_enter Tryz.func158, Tryz.ntmps158
      go_wp2_with fail
      refine (NA.out _ _).mono ?_
      rintro e w1 ⟨rfl, rfl⟩
      go_wp2_with fail
      refine (NA.out _ _).mono ?_
      rintro e w1 ⟨rfl, rfl⟩
      go_wp2_with fail
      go_ret
      exact ⟨rfl, rfl⟩
theorem cmpI64_any (a b : Int) (w : World) : Calls Tryz.prog 159 #[.int .i64 a, .int .i64 b] w fun e w' => e = .returned (.int .i64 (icmp a b)) ∧ w' = w := by
  have nan : ∀ (a : Int) (w : World), Calls Tryz.prog 174 #[.int .i64 a] w fun e w' => e = .returned (.bool false) ∧ w' = w := by
    intro a w
    go_enter Tryz.func174, Tryz.ntmps174
    go_wp2
    go_ret
    simp
  have NA := Lib.hid nan
  clear nan
  by_cases h1 : a < b
  · rw [show icmp a b = -1 from if_pos h1]
    go_enter Tryz.func159, Tryz.ntmps159
    go_wp2_with fail
    refine (NA.out _ _).mono ?_
    rintro e w1 ⟨rfl, rfl⟩
    go_wp2_with fail
    refine (NA.out _ _).mono ?_
    rintro e w1 ⟨rfl, rfl⟩
    go_wp2_with fail
    go_ret
    exact ⟨rfl, rfl⟩
  · by_cases h2 : b < a
    · rw [show icmp a b = 1 by unfold icmp; rw [if_neg h1, if_pos h2]]
      go_enter Tryz.func159, Tryz.ntmps159
      go_wp2_with fail
      refine (NA.out _ _).mono ?_
      rintro e w1 ⟨rfl, rfl⟩
      go_wp2_with fail
      refine (NA.out _ _).mono ?_
      rintro e w1 ⟨rfl, rfl⟩
      go_wp2_with fail
      go_ret
      exact ⟨rfl, rfl⟩
    · rw [show icmp a b = 0 by unfold icmp; rw [if_neg h1, if_neg h2]]
      go_enter Tryz.func159, Tryz.ntmps159
      go_wp2_with fail
      refine (NA.out _ _).mono ?_
      rintro e w1 ⟨rfl, rfl⟩
      go_wp2_with fail
      refine (NA.out _ _).mono ?_
      rintro e w1 ⟨rfl, rfl⟩
      go_wp2_with fail
      go_ret
      exact ⟨rfl, rfl⟩
def VT.kd : VT → Int
  | .mk k _ _ _ _ _ => k
def VT.nu : VT → Int
  | .mk _ n _ _ _ _ => n
def VT.tx : VT → List UInt8
  | .mk _ _ s _ _ _ => s
mutual
/-- How two values stand. -/
def VT.cmp : VT → VT → Int
  | .mk k n s _ _ l, b => if k ≠ b.kd then icmp k b.kd else if k = 1 then icmp n b.nu else if k = 2 then Lib.compareBytes s b.tx else if k = 3 then cmpL l b.lst else 0
def cmpL : List VT → List VT → Int
  | [], m => icmp 0 m.length
  | x :: l, m => match m with
    | [] => 1
    | y :: m => if x.cmp y ≠ 0 then x.cmp y else cmpL l m
end
theorem icmp_len (a b c : Nat) : icmp ((a + c : Nat) : Int) ((b + c : Nat) : Int) = icmp (a : Int) (b : Int) := by
  have e1 : (((a + c : Nat) : Int) < ((b + c : Nat) : Int)) = ((a : Int) < (b : Int)) := propext (by omega)
  have e2 : (((b + c : Nat) : Int) < ((a + c : Nat) : Int)) = ((b : Int) < (a : Int)) := propext (by omega)
  unfold icmp
  simp only [e1, e2]
/-- Where one of the two is at its end. -/
theorem cmpL_end {l m : List VT} {j : Nat} (hl : j ≤ l.length) (hm : j ≤ m.length) (h : j = l.length ∨ j = m.length) : cmpL (l.drop j) (m.drop j) = icmp (l.length : Int) (m.length : Int) := by
  rcases h with h | h
  · rw [List.drop_of_length_le (by omega : l.length ≤ j), cmpL]
    have := icmp_len 0 (m.drop j).length j
    rw [show (m.drop j).length + j = m.length by simp; omega, show 0 + j = l.length by omega] at this
    exact this.symm
  · rw [List.drop_of_length_le (by omega : m.length ≤ j)]
    cases hd : l.drop j with
    | nil =>
      have : l.length = j := by have := congrArg List.length hd; simp at this; omega
      rw [cmpL, this, h]
      simp [icmp]
    | cons x q =>
      have : m.length < l.length := by have := congrArg List.length hd; simp at this; omega
      rw [cmpL]
      unfold icmp
      rw [if_neg (by omega), if_pos (by omega)]
theorem cmpL_step {l m : List VT} {j : Nat} {x y : VT} (hx : l[j]? = some x) (hy : m[j]? = some y) : cmpL (l.drop j) (m.drop j) = if x.cmp y ≠ 0 then x.cmp y else cmpL (l.drop (j + 1)) (m.drop (j + 1)) := by
  obtain ⟨hjl, hx⟩ := List.getElem?_eq_some_iff.1 hx
  obtain ⟨hjm, hy⟩ := List.getElem?_eq_some_iff.1 hy
  rw [List.drop_eq_getElem_cons hjl, List.drop_eq_getElem_cons hjm, hx, hy, cmpL]
def CmpAny (x : VT) : Prop := ∀ (y : VT) (N : Nat) (w : World), x.At N w → y.At N w → N ≤ w.heap.size → Calls Tryz.prog 141 #[.agg x.cells.toArray, .agg y.cells.toArray] w fun e w' => e = .returned (.int .i64 (x.cmp y)) ∧ Below w.heap.size w w'
def cmRel (w : World) (l m : List VT) (i : Value) (wr : World) : Prop := ∃ j : Nat, i = .int .i64 (j : Int) ∧ j ≤ l.length ∧ j ≤ m.length ∧ cmpL l m = cmpL (l.drop j) (m.drop j) ∧ Below w.heap.size w wr
theorem below_drewG {B : Nat} {a w : World} (h : Below B a w) (n : Nat) : Below B a (w.drewN n) := ⟨h.os, h.tape, h.output, h.size, h.block⟩
set_option maxHeartbeats 4000000 in
set_option maxRecDepth 100000 in
theorem cmpLists_any (k n : Int) (s : List UInt8) (ao : Option Addr) (c : Nat) (l : List VT) (k2 n2 : Int) (s2 : List UInt8) (ao2 : Option Addr) (c2 : Nat) (m : List VT) (ih : ∀ x ∈ l, CmpAny x) (N : Nat) (w : World) (hv : (VT.mk k n s ao c l).At N w) (hv2 : (VT.mk k2 n2 s2 ao2 c2 m).At N w) (hN : N ≤ w.heap.size) :
    Calls Tryz.prog 161 #[.slice ao l.length c, .slice ao2 m.length c2] w fun e w' => e = .returned (.int .i64 (cmpL l m)) ∧ Below w.heap.size w w' := by
  have hll := hv.fit.2.2.2
  have hmm := hv2.fit.2.2.2
  have IH := Lib.hid ih
  have HV := Lib.hid hv
  have HV2 := Lib.hid hv2
  obtain ⟨R, hR⟩ : ∃ R, R = cmpL l m := ⟨_, rfl⟩
  rw [← hR]
  have HR := Lib.hid hR
  have SZ := Lib.hid Tryz.valSize
  have CI := Lib.hid (fun W => cmpInt_any (l.length : Int) (m.length : Int) W)
  obtain ⟨z, hz⟩ : ∃ z : Nat, z = min l.length m.length := ⟨_, rfl⟩
  have hzi : (if (m.length : Int) < (l.length : Int) then (m.length : Int) else (l.length : Int)) = (z : Int) := by split <;> omega
  have hzi2 : min (l.length : Int) (m.length : Int) = (z : Int) := by omega
  have hz1 : z ≤ l.length ∧ z ≤ m.length := by omega
  have hz2 : z = l.length ∨ z = m.length := by omega
  have HZ2 := Lib.hid hz2
  have HZI := Lib.hid hzi2
  clear ih hv hv2 hR hz hzi hzi2 hz2
  go_enter Tryz.func161, Tryz.ntmps161
  go_wp2_with fail
  rw [HZI.out]
  go_loopw [12] (fun i wr => cmRel w l m i wr) (fun i _ => z - (intOf i).toNat)
  case atStart => exact ⟨0, rfl, Nat.zero_le _, Nat.zero_le _, rfl, Below.refl _ _⟩
  case round =>
    obtain ⟨wq, rfl⟩ : ∃ wq : World, wq = wr := ⟨_, rfl⟩
    obtain ⟨j, rfl, hjl, hjm, hd, hb⟩ := hrel
    have HB := Lib.hid hb
    have HD := Lib.hid hd
    clear hb hd
    have q0 : (0 : Int) ≤ (j : Int) := by omega
    by_cases hjz : j < z
    · have q1 : (j : Int) < (z : Int) := by omega
      have q2 : (j : Int) < (l.length : Int) := by omega
      have q3 : (j : Int) < (m.length : Int) := by omega
      obtain ⟨x, hx⟩ : ∃ x, l[j]? = some x := ⟨_, List.getElem?_eq_getElem (by omega)⟩
      obtain ⟨y, hy⟩ : ∃ y, m[j]? = some y := ⟨_, List.getElem?_eq_getElem (by omega)⟩
      obtain ⟨hxv, ad, rfl, had, hxc⟩ := HV.out.elem hx
      obtain ⟨hyv, ad2, rfl, had2, hyc⟩ := HV2.out.elem hy
      have hst := cmpL_step hx hy
      have up : ∀ W, Below wq.heap.size wq W → Below w.heap.size w W := fun W h => HB.out.trans (h.mono HB.out.size)
      have KX := Lib.hid (fun W (h : Below wq.heap.size wq W) => hxc W (fun q hq => (up W h).block q (by omega)))
      have KY := Lib.hid (fun W (h : Below wq.heap.size wq W) => hyc W (fun q hq => (up W h).block q (by omega)))
      have CX := Lib.hid (fun W (h : Below wq.heap.size wq W) => IH.out x (List.mem_of_getElem? hx) y N W (hxv.below ((up W h).mono hN)) (hyv.below ((up W h).mono hN)) (Nat.le_trans hN (up W h).size))
      obtain ⟨r, hr⟩ : ∃ r, r = x.cmp y := ⟨_, rfl⟩
      rw [← hr] at hst
      simp only [← hr] at CX
      have HST := Lib.hid hst
      have UP := Lib.hid up
      clear hxv hxc hyv hyc hst up hr had had2 hx hy
      go_upto_region 4 with fail
      refine wp_region_quiet_in (fun w' => Below wq.heap.size wq w') (by kernel_rfl) (by kernel_rfl) (below_drewG (Below.refl wq.heap.size wq) 1) ?_
      refine wpQuiet_runG (v := (.slice (some ad) l.length c)) (by kernel_rfl) (fun w' hC => by rfl) ?_
      simp only [Act.put, List.setIfInBounds_toArray, List.set_cons_zero, List.set_cons_succ, List.getElem_toArray, List.getElem_cons_zero, List.getElem_cons_succ]
      refine wpQuiet_runG (v := (.int .i64 (j : Int))) (by kernel_rfl) (fun w' hC => by rfl) ?_
      simp only [Act.put, List.setIfInBounds_toArray, List.set_cons_zero, List.set_cons_succ, List.getElem_toArray, List.getElem_cons_zero, List.getElem_cons_succ]
      refine wpQuiet_runG (v := (.pointer (some (ad.add (j * 4))))) (by kernel_rfl) (fun w' hC => by go_simp) ?_
      simp only [Act.put, List.setIfInBounds_toArray, List.set_cons_zero, List.set_cons_succ, List.getElem_toArray, List.getElem_cons_zero, List.getElem_cons_succ]
      refine wpQuiet_loadG (by kernel_rfl) 26 (.tmp 17) rfl (ad.add (j * 4)) rfl x.cells _ (fun w' hC => KX.out w' hC) Tryz.underlying26 rfl (SZ.out x) ?_
      simp only [Act.put, List.setIfInBounds_toArray, List.set_cons_zero, List.set_cons_succ, List.getElem_toArray, List.getElem_cons_zero, List.getElem_cons_succ]
      refine wpQuiet_runG (v := (.slice (some ad2) m.length c2)) (by kernel_rfl) (fun w' hC => by rfl) ?_
      simp only [Act.put, List.setIfInBounds_toArray, List.set_cons_zero, List.set_cons_succ, List.getElem_toArray, List.getElem_cons_zero, List.getElem_cons_succ]
      refine wpQuiet_runG (v := (.int .i64 (j : Int))) (by kernel_rfl) (fun w' hC => by rfl) ?_
      simp only [Act.put, List.setIfInBounds_toArray, List.set_cons_zero, List.set_cons_succ, List.getElem_toArray, List.getElem_cons_zero, List.getElem_cons_succ]
      refine wpQuiet_runG (v := (.pointer (some (ad2.add (j * 4))))) (by kernel_rfl) (fun w' hC => by go_simp) ?_
      simp only [Act.put, List.setIfInBounds_toArray, List.set_cons_zero, List.set_cons_succ, List.getElem_toArray, List.getElem_cons_zero, List.getElem_cons_succ]
      refine wpQuiet_loadG (by kernel_rfl) 26 (.tmp 21) rfl (ad2.add (j * 4)) rfl y.cells _ (fun w' hC => KY.out w' hC) Tryz.underlying26 rfl (SZ.out y) ?_
      simp only [Act.put, List.setIfInBounds_toArray, List.set_cons_zero, List.set_cons_succ, List.getElem_toArray, List.getElem_cons_zero, List.getElem_cons_succ]
      refine wpQuiet_callG (f := 141) (xs := #[.tmp 18, .tmp 22]) #[.agg x.cells.toArray, .agg y.cells.toArray] (.int .i64 r) (by kernel_rfl) rfl Tryz.func141 (by kernel_rfl) (by kernel_rfl) (by simp [Act.eval]) (fun W hW => (CX.out W hW).mono fun e w' h => ⟨h.1, Below.trans hW (h.2.mono hW.size)⟩) ?_
      simp only [Act.put, List.setIfInBounds_toArray, List.set_cons_zero, List.set_cons_succ, List.getElem_toArray, List.getElem_cons_zero, List.getElem_cons_succ]
      refine wpQuiet_runG (v := (.int .i64 r)) (by kernel_rfl) (fun w' hC => by rfl) ?_
      simp only [Act.put, List.setIfInBounds_toArray, List.set_cons_zero, List.set_cons_succ, List.getElem_toArray, List.getElem_cons_zero, List.getElem_cons_succ]
      refine wpQuiet_nil ?_
      intro w3 hC3
      have HB3 := Lib.hid (UP.out w3 hC3)
      clear hC3
      by_cases hr0 : r = 0
      · have hst := HST.out
        rw [if_neg (not_not_intro hr0)] at hst
        have RL := Lib.hid (show cmRel w l m (.int .i64 ((j + 1 : Nat) : Int)) w3 from ⟨j + 1, rfl, by omega, by omega, HD.out.trans hst, HB3.out⟩)
        subst hr0
        clear hst
        go_wp2_with fail
        exact ⟨RL.out, by simp [intOf]; omega⟩
      · have hR : R = r := by rw [HR.out, HD.out, HST.out, if_pos hr0]
        subst hR
        go_wp2_with fail
        go_ret
        exact ⟨rfl, HB3.out⟩
    · have q1 : ¬ (j : Int) < (z : Int) := by omega
      have hR : R = icmp (l.length : Int) (m.length : Int) := by rw [HR.out, HD.out]; exact cmpL_end hjl hjm (by have := HZ2.out; omega)
      rw [← hR] at CI
      clear hR
      go_wp2_with fail
      refine (CI.out _).mono ?_
      rintro e w4 ⟨rfl, hw4⟩
      have hw4' := hw4.symm
      subst hw4'
      clear hw4
      go_wp2_with fail
      go_ret
      exact ⟨rfl, HB.out⟩
end Go.Proofs.YtnfobnnbeefeeaaGreatDoor.Wi
/- compare, Compare, Same. -/
namespace Go.Proofs.YtnfobnnbeefeeaaGreatDoor.Wi
open Go Go.RowKit
set_option linter.unusedVariables false
set_option linter.unusedSimpArgs false
set_option maxHeartbeats 4000000 in
set_option maxRecDepth 100000 in
theorem cmp_any : ∀ v : VT, CmpAny v := by
  intro v
  induction v using VT.ind with
  | h k n s ao c l ih =>
    intro y N w hv hy hN
    obtain ⟨k2, n2, s2, ao2, c2, m⟩ := y
    have CL := fun W h1 h2 h3 => cmpLists_any k n s ao c l k2 n2 s2 ao2 c2 m ih N W h1 h2 h3
    obtain ⟨w1, hw1⟩ : ∃ w1, w1 = w.alloc (.cells (VT.mk k n s ao c l).cells.toArray 26) := ⟨_, rfl⟩
    obtain ⟨g, hg⟩ : ∃ g, g = w.heap.size := ⟨_, rfl⟩
    obtain ⟨w2, hw2⟩ : ∃ w2, w2 = w1.alloc (.cells (VT.mk k2 n2 s2 ao2 c2 m).cells.toArray 26) := ⟨_, rfl⟩
    obtain ⟨g2, hg2⟩ : ∃ g, g = w.heap.size + 1 := ⟨_, rfl⟩
    have hg2' : g2 = w1.heap.size := by rw [hg2, hw1]; simp
    have hb1 : Below w.heap.size w w1 := by rw [hw1]; exact (Below.refl _ _).alloc (Nat.le_refl _) _
    have nk : w1.heap[g]? = some (.cells (VT.mk k n s ao c l).cells.toArray 26 (0, 0)) := by rw [hw1, hg]; exact heap_alloc_new _ _
    have hb2 : Below w1.heap.size w1 w2 := by rw [hw2]; exact (Below.refl _ _).alloc (Nat.le_refl _) _
    have nk2 : w2.heap[g2]? = some (.cells (VT.mk k2 n2 s2 ao2 c2 m).cells.toArray 26 (0, 0)) := by rw [hw2, hg2']; exact heap_alloc_new _ _
    have nk1 := (hb2.block g (lt_of_rowW nk)).trans nk
    have hb : Below w.heap.size w w2 := hb1.trans (hb2.mono hb1.size)
    have a0 : w2.cell? ⟨g, 0, none⟩ = some (.int .i64 k) := by rw [cell_of_rowW w2 g 0 _ _ _ nk1]; rfl
    have a1 : w2.cell? ⟨g, 1, none⟩ = some (.int .i64 n) := by rw [cell_of_rowW w2 g 1 _ _ _ nk1]; rfl
    have a2 : w2.cell? ⟨g, 2, none⟩ = some (.string (str s)) := by rw [cell_of_rowW w2 g 2 _ _ _ nk1]; rfl
    have a3 : w2.cell? ⟨g, 3, none⟩ = some (.slice ao l.length c) := by rw [cell_of_rowW w2 g 3 _ _ _ nk1]; rfl
    have b0 : w2.cell? ⟨g2, 0, none⟩ = some (.int .i64 k2) := by rw [cell_of_rowW w2 g2 0 _ _ _ nk2]; rfl
    have b1 : w2.cell? ⟨g2, 1, none⟩ = some (.int .i64 n2) := by rw [cell_of_rowW w2 g2 1 _ _ _ nk2]; rfl
    have b2 : w2.cell? ⟨g2, 2, none⟩ = some (.string (str s2)) := by rw [cell_of_rowW w2 g2 2 _ _ _ nk2]; rfl
    have b3 : w2.cell? ⟨g2, 3, none⟩ = some (.slice ao2 m.length c2) := by rw [cell_of_rowW w2 g2 3 _ _ _ nk2]; rfl
    have LS := Lib.hid (CL w2 (hv.below (hb.mono hN)) (hy.below (hb.mono hN)) (Nat.le_trans hN hb.size))
    have hc : (VT.mk k n s ao c l).cmp (VT.mk k2 n2 s2 ao2 c2 m) = if k ≠ k2 then icmp k k2 else if k = 1 then icmp n n2 else if k = 2 then Lib.compareBytes s s2 else if k = 3 then cmpL l m else 0 := by rw [VT.cmp]; rfl
    obtain ⟨R, hR⟩ : ∃ R, R = (VT.mk k n s ao c l).cmp (VT.mk k2 n2 s2 ao2 c2 m) := ⟨_, rfl⟩
    rw [← hR] at hc ⊢
    have HC := Lib.hid hc
    have CI := Lib.hid (fun W => cmpInt_any k k2 W)
    have C6 := Lib.hid (fun W => cmpI64_any n n2 W)
    have CS := fun W => Tryz.strings_Compare (str s) (str s2) W
    rw [show (str s).data.toList = s by simp [str], show (str s2).data.toList = s2 by simp [str]] at CS
    obtain ⟨S, hS⟩ : ∃ S, S = str s := ⟨_, rfl⟩
    obtain ⟨S2, hS2⟩ : ∃ S, S = str s2 := ⟨_, rfl⟩
    have hw1b := show w1 = w.alloc (.cells #[.int .i64 k, .int .i64 n, .string (str s), .slice ao l.length c] 26) from hw1
    have hw2b := show w2 = w1.alloc (.cells #[.int .i64 k2, .int .i64 n2, .string (str s2), .slice ao2 m.length c2] 26) from hw2
    rw [← hS] at a2 CS hw1b
    rw [← hS2] at b2 CS hw2b
    show Calls Tryz.prog 141 #[.agg #[.int .i64 k, .int .i64 n, .string (str s), .slice ao l.length c], .agg #[.int .i64 k2, .int .i64 n2, .string (str s2), .slice ao2 m.length c2]] w _
    rw [← hS, ← hS2]
    have CSS := Lib.hid CS
    have HW1 := Lib.hid hw1b
    have HW2 := Lib.hid hw2b
    clear hw1b hw2b
    have HB := Lib.hid hb
    have HG := Lib.hid hg
    have HG2 := Lib.hid hg2
    clear CL hw1 hg hw2 hg2 hg2' hb1 nk hb2 nk2 nk1 hb hc hR CS hS hS2 hv hy ih
    go_enter Tryz.func141, Tryz.ntmps141
    go_upto_region 1 with fail
    rw [← HW1.out, ← HW2.out, ← HG2.out, ← HG.out]
    by_cases e0 : k = k2
    · have HC2 := Lib.hid (HC.out.trans (if_neg (not_not_intro e0)))
      subst e0
      by_cases e1 : k = 1
      · have hR := HC2.out.trans (if_pos e1)
        rw [← hR] at C6
        subst e1
        clear hR
        go_wp2_with fail
        refine (C6.out _).mono ?_
        rintro e w4 ⟨rfl, hw4⟩
        have hw4' := hw4.symm
        subst hw4'
        clear hw4
        go_wp2_with fail
        go_ret
        exact ⟨rfl, HB.out⟩
      have HC3 := Lib.hid (HC2.out.trans (if_neg e1))
      by_cases e2 : k = 2
      · have hR := HC3.out.trans (if_pos e2)
        rw [← hR] at CSS
        subst e2
        clear hR
        go_wp2_with fail
        refine (CSS.out _).mono ?_
        rintro e w4 ⟨rfl, hw4⟩
        have hw4' := hw4.symm
        subst hw4'
        clear hw4
        go_wp2_with fail
        go_ret
        exact ⟨rfl, HB.out⟩
      have HC4 := Lib.hid (HC3.out.trans (if_neg e2))
      by_cases e3 : k = 3
      · have hR := HC4.out.trans (if_pos e3)
        rw [← hR] at LS
        subst e3
        clear hR
        go_wp2_with fail
        refine LS.out.mono ?_
        rintro e w4 ⟨rfl, hb4⟩
        have HB4 := Lib.hid (HB.out.trans (hb4.mono HB.out.size))
        clear hb4
        go_wp2_with fail
        go_ret
        exact ⟨rfl, HB4.out⟩
      · have hR := HC4.out.trans (if_neg e3)
        subst hR
        go_wp2_with fail
        go_ret
        exact ⟨rfl, HB.out⟩
    · have hR := HC.out.trans (if_pos e0)
      rw [← hR] at CI
      clear hR
      go_wp2_with fail
      refine (CI.out _).mono ?_
      rintro e w4 ⟨rfl, hw4⟩
      have hw4' := hw4.symm
      subst hw4'
      clear hw4
      go_wp2_with fail
      go_ret
      exact ⟨rfl, HB.out⟩
theorem chk_dpr : ∀ (v : VT) (d p m : Nat), (v.chk d p).1 = 0 → 8 - d ≤ m → v.dpr m = false := by
  intro v
  induction v using VT.ind with
  | h k n s ao c l ih =>
    intro d p m
    have hL : ∀ (q : List VT), (∀ x ∈ q, x ∈ l) → ∀ d p m, (chkL q d p).1 = 0 → 8 - d ≤ m → dprL q m = false := by
      intro q
      induction q with
      | nil => intro _ d p m _ _; rw [dprL]
      | cons x q ihq =>
        intro hq d p m
        rw [chkL, dprL]
        by_cases h : (x.chk d p).1 = 0
        · rw [if_neg (not_not_intro h)]
          intro h2 hm
          rw [ih x (hq x (by simp)) d p m h hm, ihq (fun y hy => hq y (by simp [hy])) d _ m h2 hm]
          rfl
        · rw [if_pos h]
          intro h2; exact absurd h2 h
    rw [VT.chk, VT.dpr]
    by_cases h1 : 256 < p + 1
    · rw [if_pos h1]; intro h; simp at h
    rw [if_neg h1]
    by_cases h4 : k = 3
    · rw [if_neg (by omega), if_neg (by omega), if_pos h4, if_pos h4]
      by_cases h5 : 8 ≤ d
      · rw [if_pos h5]; intro h; simp at h
      rw [if_neg h5]
      by_cases h6 : 64 < l.length
      · rw [if_pos h6]; intro h; simp at h
      rw [if_neg h6]
      intro h hm
      rw [if_neg (by omega)]
      exact hL l (fun x hx => hx) _ _ _ h (by omega)
    · intro _ _
      rw [if_neg h4]
set_option maxHeartbeats 4000000 in
set_option maxRecDepth 100000 in
theorem vcompare_any (x y : VT) (hx8 : x.dpr 65536 = false) (N : Nat) (w : World) (hx : x.At N w) (hy : y.At N w) (hN : N ≤ w.heap.size) : Calls Tryz.prog 117 #[.agg x.cells.toArray, .agg y.cells.toArray] w fun e w' => e = .returned (.int .i64 (x.cmp y)) ∧ Below w.heap.size w w' := by
  obtain ⟨w1, hw1⟩ : ∃ w1, w1 = w.alloc (.cells x.cells.toArray 26) := ⟨_, rfl⟩
  obtain ⟨g, hg⟩ : ∃ g, g = w.heap.size := ⟨_, rfl⟩
  obtain ⟨w2, hw2⟩ : ∃ w2, w2 = w1.alloc (.cells y.cells.toArray 26) := ⟨_, rfl⟩
  obtain ⟨g2, hg2⟩ : ∃ g, g = w.heap.size + 1 := ⟨_, rfl⟩
  have hg2' : g2 = w1.heap.size := by rw [hg2, hw1]; simp
  have hb1 : Below w.heap.size w w1 := by rw [hw1]; exact (Below.refl _ _).alloc (Nat.le_refl _) _
  have nk : w1.heap[g]? = some (.cells x.cells.toArray 26 (0, 0)) := by rw [hw1, hg]; exact heap_alloc_new _ _
  have hb2 : Below w1.heap.size w1 w2 := by rw [hw2]; exact (Below.refl _ _).alloc (Nat.le_refl _) _
  have nk2 : w2.heap[g2]? = some (.cells y.cells.toArray 26 (0, 0)) := by rw [hw2, hg2']; exact heap_alloc_new _ _
  have nk1 := (hb2.block g (lt_of_rowW nk)).trans nk
  have hb : Below w.heap.size w w2 := hb1.trans (hb2.mono hb1.size)
  have K2 := Lib.hid (show ∀ (W : World) (q : Nat) (v : VT), W.heap[q]? = some (.cells v.cells.toArray 26 (0, 0)) → ∀ (j : Nat) u, v.cells[j]? = some u → W.cell? ((⟨q, 0, none⟩ : Addr).add j) = some u from fun W q v h j u hj => by
    rw [Addr.add_mid, Nat.zero_add, cell_of_rowW W q j _ _ _ h]
    simpa using hj)
  have EN := endless_any x N w2 (hx.below (hb.mono hN)) (Nat.le_trans hN hb.size)
  rw [hx8] at EN
  have HEN := Lib.hid EN
  have KD := Lib.hid (K2.out w2 g x nk1)
  have HN1 := Lib.hid nk1
  have HN2 := Lib.hid nk2
  have HW1 := Lib.hid hw1
  have HW2 := Lib.hid hw2
  have HG := Lib.hid hg
  have HG2 := Lib.hid hg2
  have HB := Lib.hid hb
  have HX := Lib.hid hx
  have HY := Lib.hid hy
  have SZ := Lib.hid Tryz.valSize
  clear hw1 hg hw2 hg2 hg2' hb1 nk hb2 nk2 nk1 hb EN hx hy hx8
  go_enter Tryz.func117, Tryz.ntmps117
  go_upto_region 1 with fail
  rw [← HW1.out, ← HW2.out, ← HG2.out, ← HG.out]
  go_wp2_with (with_reducible show wpList _ _ _ _ _ _; refine wpList_load_allW rfl 26 (.tmp 2) rfl ⟨g, 0, none⟩ rfl x.cells _ KD.out Tryz.underlying26 rfl (SZ.out x) ?_)
  refine HEN.out.mono ?_
  rintro e w3 ⟨rfl, hb3⟩
  have KX3 := Lib.hid (K2.out w3 g x ((hb3.block g (lt_of_rowW HN1.out)).trans HN1.out))
  have KY3 := Lib.hid (K2.out w3 g2 y ((hb3.block g2 (lt_of_rowW HN2.out)).trans HN2.out))
  have hbw := HB.out.trans (hb3.mono HB.out.size)
  have CM := Lib.hid (cmp_any x y N w3 (HX.out.below (hbw.mono hN)) (HY.out.below (hbw.mono hN)) (Nat.le_trans hN hbw.size))
  have HB3 := Lib.hid hbw
  clear hb3 hbw KD
  go_wp2_with (first
    | (with_reducible show wpList _ _ _ _ _ _; refine wpList_load_allW rfl 26 (.tmp 2) rfl ⟨g, 0, none⟩ rfl x.cells _ KX3.out Tryz.underlying26 rfl (SZ.out x) ?_)
    | (with_reducible show wpList _ _ _ _ _ _; refine wpList_load_allW rfl 26 (.tmp 3) rfl ⟨g2, 0, none⟩ rfl y.cells _ KY3.out Tryz.underlying26 rfl (SZ.out y) ?_))
  refine CM.out.mono ?_
  rintro e w4 ⟨rfl, hb4⟩
  have HB4 := Lib.hid (HB3.out.trans (hb4.mono HB3.out.size))
  clear hb4
  go_wp2_with fail
  go_ret
  exact ⟨rfl, HB4.out⟩
theorem vsame_any (x y : VT) (hx8 : x.dpr 65536 = false) (N : Nat) (w : World) (hx : x.At N w) (hy : y.At N w) (hN : N ≤ w.heap.size) : Calls Tryz.prog 81 #[.agg x.cells.toArray, .agg y.cells.toArray] w fun e w' => e = .returned (.bool (decide (x.cmp y = 0))) ∧ Below w.heap.size w w' := by
  obtain ⟨w1, hw1⟩ : ∃ w1, w1 = w.alloc (.cells x.cells.toArray 26) := ⟨_, rfl⟩
  obtain ⟨g, hg⟩ : ∃ g, g = w.heap.size := ⟨_, rfl⟩
  obtain ⟨w2, hw2⟩ : ∃ w2, w2 = w1.alloc (.cells y.cells.toArray 26) := ⟨_, rfl⟩
  obtain ⟨g2, hg2⟩ : ∃ g, g = w.heap.size + 1 := ⟨_, rfl⟩
  have hg2' : g2 = w1.heap.size := by rw [hg2, hw1]; simp
  have hb1 : Below w.heap.size w w1 := by rw [hw1]; exact (Below.refl _ _).alloc (Nat.le_refl _) _
  have nk : w1.heap[g]? = some (.cells x.cells.toArray 26 (0, 0)) := by rw [hw1, hg]; exact heap_alloc_new _ _
  have hb2 : Below w1.heap.size w1 w2 := by rw [hw2]; exact (Below.refl _ _).alloc (Nat.le_refl _) _
  have nk2 : w2.heap[g2]? = some (.cells y.cells.toArray 26 (0, 0)) := by rw [hw2, hg2']; exact heap_alloc_new _ _
  have nk1 := (hb2.block g (lt_of_rowW nk)).trans nk
  have hb : Below w.heap.size w w2 := hb1.trans (hb2.mono hb1.size)
  have K2 := Lib.hid (show ∀ (W : World) (q : Nat) (v : VT), W.heap[q]? = some (.cells v.cells.toArray 26 (0, 0)) → ∀ (j : Nat) u, v.cells[j]? = some u → W.cell? ((⟨q, 0, none⟩ : Addr).add j) = some u from fun W q v h j u hj => by
    rw [Addr.add_mid, Nat.zero_add, cell_of_rowW W q j _ _ _ h]
    simpa using hj)
  have CM := Lib.hid (vcompare_any x y hx8 N w2 (hx.below (hb.mono hN)) (hy.below (hb.mono hN)) (Nat.le_trans hN hb.size))
  have KX := Lib.hid (K2.out w2 g x nk1)
  have KY := Lib.hid (K2.out w2 g2 y nk2)
  have HW1 := Lib.hid hw1
  have HW2 := Lib.hid hw2
  have HG := Lib.hid hg
  have HG2 := Lib.hid hg2
  have HB := Lib.hid hb
  have SZ := Lib.hid Tryz.valSize
  obtain ⟨R, hR⟩ : ∃ R, R = x.cmp y := ⟨_, rfl⟩
  rw [← hR] at CM ⊢
  obtain ⟨B, hBB⟩ : ∃ B, B = decide (R = 0) := ⟨_, rfl⟩
  rw [← hBB]
  have HBB := Lib.hid hBB
  clear hBB hw1 hg hw2 hg2 hg2' hb1 nk hb2 nk2 nk1 hb hx hy hx8 hR
  go_enter Tryz.func81, Tryz.ntmps81
  go_upto_region 1 with fail
  rw [← HW1.out, ← HW2.out, ← HG2.out, ← HG.out]
  go_wp2_with (first
    | (with_reducible show wpList _ _ _ _ _ _; refine wpList_load_allW rfl 26 (.tmp 2) rfl ⟨g, 0, none⟩ rfl x.cells _ KX.out Tryz.underlying26 rfl (SZ.out x) ?_)
    | (with_reducible show wpList _ _ _ _ _ _; refine wpList_load_allW rfl 26 (.tmp 3) rfl ⟨g2, 0, none⟩ rfl y.cells _ KY.out Tryz.underlying26 rfl (SZ.out y) ?_))
  refine CM.out.mono ?_
  rintro e w4 ⟨rfl, hb4⟩
  have HB4 := Lib.hid (HB.out.trans (hb4.mono HB.out.size))
  clear hb4
  by_cases h0 : R = 0
  · obtain rfl : B = true := by rw [HBB.out]; exact decide_eq_true h0
    subst h0
    go_wp2_with fail
    go_ret
    exact ⟨rfl, HB4.out⟩
  · obtain rfl : B = false := by rw [HBB.out]; exact decide_eq_false h0
    have h1 : (R == 0) = false := by simpa using h0
    go_wp2_with fail
    go_ret
    exact ⟨rfl, HB4.out⟩
end Go.Proofs.YtnfobnnbeefeeaaGreatDoor.Wi
/- clone: its theory. -/
namespace Go.Proofs.YtnfobnnbeefeeaaGreatDoor.Wi
open Go Go.RowKit
set_option linter.unusedVariables false
set_option linter.unusedSimpArgs false
mutual
/-- A value without its places, and without what does not count. -/
def VT.nz : VT → VT
  | .mk k n s ao c l => .mk k (if k = 1 then n else 0) (if k = 2 then s else []) none 0 (if k = 3 then nzL l else [])
def nzL : List VT → List VT
  | [] => []
  | x :: l => x.nz :: nzL l
end
theorem nzL_map : ∀ l : List VT, nzL l = l.map VT.nz
  | [] => by rw [nzL]; rfl
  | x :: l => by rw [nzL, nzL_map l]; rfl
theorem nz_chk : ∀ (v : VT) (d p : Nat), v.nz.chk d p = v.chk d p := by
  intro v
  induction v using VT.ind with
  | h k n s ao c l ih =>
    intro d p
    have hL : ∀ (q : List VT), (∀ x ∈ q, x ∈ l) → ∀ d p, chkL (nzL q) d p = chkL q d p := by
      intro q
      induction q with
      | nil => intro _ d p; rw [nzL]
      | cons x q ihq =>
        intro hq d p
        rw [nzL, chkL, chkL, ih x (hq x (by simp)), ihq (fun y hy => hq y (by simp [hy]))]
    rw [VT.nz, VT.chk, VT.chk]
    by_cases h2 : k = 2
    · subst h2; simp
    · by_cases h3 : k = 3
      · subst h3
        have e : (nzL l).length = l.length := by rw [nzL_map]; simp
        simp [e, hL l (fun x hx => hx)]
      · simp [h2, h3]
theorem nz_vb : ∀ v : VT, v.nz.vb = v.vb := by
  intro v
  induction v using VT.ind with
  | h k n s ao c l ih =>
    have hL : ∀ (q : List VT), (∀ x ∈ q, x ∈ l) → vbL (nzL q) = vbL q := by
      intro q
      induction q with
      | nil => intro _; rw [nzL]
      | cons x q ihq =>
        intro hq
        rw [nzL, vbL, vbL, ih x (hq x (by simp)), ihq (fun y hy => hq y (by simp [hy]))]
    rw [VT.nz, VT.vb, VT.vb]
    by_cases h1 : k = 1
    · subst h1; simp
    · by_cases h2 : k = 2
      · subst h2; simp
      · by_cases h3 : k = 3
        · subst h3
          have e : (nzL l).length = l.length := by rw [nzL_map]; simp
          simp [e, hL l (fun x hx => hx)]
        · simp [h1, h2, h3]
theorem nz_kin : ∀ v : VT, v.nz.Kin ↔ v.Kin := by
  intro v
  induction v using VT.ind with
  | h k n s ao c l ih =>
    have hL : ∀ (q : List VT), (∀ x ∈ q, x ∈ l) → (KinL (nzL q) ↔ KinL q) := by
      intro q
      induction q with
      | nil => intro _; rw [nzL]
      | cons x q ihq =>
        intro hq
        rw [nzL, KinL, KinL, ih x (hq x (by simp)), ihq (fun y hy => hq y (by simp [hy]))]
    rw [VT.nz, VT.Kin, VT.Kin]
    by_cases h3 : k = 3
    · subst h3; simp [hL l (fun x hx => hx)]
    · simp [h3]
theorem nz_dpr : ∀ (v : VT) (m : Nat), v.nz.dpr m = v.dpr m := by
  intro v
  induction v using VT.ind with
  | h k n s ao c l ih =>
    intro m
    have hL : ∀ (q : List VT), (∀ x ∈ q, x ∈ l) → ∀ m, dprL (nzL q) m = dprL q m := by
      intro q
      induction q with
      | nil => intro _ m; rw [nzL]
      | cons x q ihq =>
        intro hq m
        rw [nzL, dprL, dprL, ih x (hq x (by simp)), ihq (fun y hy => hq y (by simp [hy]))]
    rw [VT.nz, VT.dpr, VT.dpr]
    by_cases h3 : k = 3
    · subst h3; simp [hL l (fun x hx => hx)]
    · simp [h3]
theorem nz_cmpR : ∀ (v b : VT), v.cmp b.nz = v.cmp b := by
  intro v
  induction v using VT.ind with
  | h k n s ao c l ih =>
    intro b
    have hL : ∀ (q : List VT), (∀ x ∈ q, x ∈ l) → ∀ m, cmpL q (nzL m) = cmpL q m := by
      intro q
      induction q with
      | nil => intro _ m; rw [cmpL, cmpL, nzL_map]; simp
      | cons x q ihq =>
        intro hq m
        cases m with
        | nil => rw [nzL]
        | cons y m => rw [nzL, cmpL, cmpL, ih x (hq x (by simp)), ihq (fun y hy => hq y (by simp [hy]))]
    obtain ⟨k2, n2, s2, ao2, c2, m⟩ := b
    rw [VT.nz, VT.cmp, VT.cmp]
    simp only [VT.kd, VT.nu, VT.tx, VT.lst]
    by_cases h0 : k = k2
    · subst h0
      by_cases h1 : k = 1
      · subst h1; simp
      · by_cases h2 : k = 2
        · subst h2; simp
        · by_cases h3 : k = 3
          · subst h3; simp [hL l (fun x hx => hx)]
          · simp [h1, h2, h3]
    · simp [h0]
theorem nz_cmpL : ∀ (v b : VT), v.nz.cmp b = v.cmp b := by
  intro v
  induction v using VT.ind with
  | h k n s ao c l ih =>
    intro b
    have hL : ∀ (q : List VT), (∀ x ∈ q, x ∈ l) → ∀ m, cmpL (nzL q) m = cmpL q m := by
      intro q
      induction q with
      | nil => intro _ m; rw [nzL]
      | cons x q ihq =>
        intro hq m
        cases m with
        | nil => rw [nzL, cmpL, cmpL]
        | cons y m => rw [nzL, cmpL, cmpL, ih x (hq x (by simp)), ihq (fun y hy => hq y (by simp [hy]))]
    obtain ⟨k2, n2, s2, ao2, c2, m⟩ := b
    rw [VT.nz, VT.cmp, VT.cmp]
    simp only [VT.kd, VT.nu, VT.tx, VT.lst]
    by_cases h1 : k = 1
    · subst h1; simp
    · by_cases h2 : k = 2
      · subst h2; simp
      · by_cases h3 : k = 3
        · subst h3; simp [hL l (fun x hx => hx)]
        · simp [h1, h2, h3]
mutual
/-- All lists lie in such blocks. -/
def VT.In (T : Nat → Prop) : VT → Prop
  | .mk _ _ _ ao _ l => (l ≠ [] → ∀ ad, ao = some ad → T ad.block) ∧ InL T l
def InL (T : Nat → Prop) : List VT → Prop
  | [] => True
  | x :: l => x.In T ∧ InL T l
end
theorem inL_mem {T : Nat → Prop} : ∀ {l : List VT}, InL T l → ∀ x ∈ l, x.In T
  | [], _, x, hx => by cases hx
  | y :: l, h, x, hx => by
    rw [InL] at h
    rcases List.mem_cons.1 hx with rfl | hx
    · exact h.1
    · exact inL_mem h.2 x hx
theorem inL_of {T : Nat → Prop} : ∀ {l : List VT}, (∀ x ∈ l, x.In T) → InL T l
  | [], _ => by rw [InL]; trivial
  | y :: l, h => by
    rw [InL]
    exact ⟨h y (by simp), inL_of fun x hx => h x (by simp [hx])⟩
theorem VT.In.imp {T T' : Nat → Prop} (hT : ∀ k, T k → T' k) : ∀ {v : VT}, v.In T → v.In T' := by
  intro v
  induction v using VT.ind with
  | h k n s ao c l ih =>
    intro h
    rw [VT.In] at h ⊢
    exact ⟨fun hl ad e => hT _ (h.1 hl ad e), inL_of fun x hx => ih x hx (inL_mem h.2 x hx)⟩
theorem VT.At.inN {N : Nat} {w : World} : ∀ {v : VT}, v.At N w → v.In (· < N) := by
  intro v
  induction v using VT.ind with
  | h k n s ao c l ih =>
    intro h
    rw [VT.At] at h
    rw [VT.In]
    refine ⟨fun hl ad e => ?_, inL_of fun x hx => ih x hx (atL_mem h.2.2.2.2.2 x hx)⟩
    obtain ⟨ad2, e2, hb, _⟩ := h.2.2.2.2.1 hl
    rw [e] at e2
    injection e2 with e2
    rw [e2]
    exact hb
theorem VT.At.keepT {N : Nat} {w w' : World} {T : Nat → Prop} : ∀ {v : VT}, v.At N w → v.In T → (∀ k, k < N → T k → w'.heap[k]? = w.heap[k]?) → v.At N w' := by
  intro v
  induction v using VT.ind with
  | h k n s ao c l ih =>
    intro h hT hk
    rw [VT.At] at h ⊢
    rw [VT.In] at hT
    obtain ⟨h1, h2, h3, h4, h5, h6⟩ := h
    refine ⟨h1, h2, h3, h4, fun hl => ?_, atL_of fun x hx => ih x hx (atL_mem h6 x hx) (inL_mem hT.2 x hx) hk⟩
    obtain ⟨ad, e, hb, hc⟩ := h5 hl
    refine ⟨ad, e, hb, fun j v hj => ?_⟩
    have e2 : w'.cell? (ad.add j) = w.cell? (ad.add j) := World.cell?_of_block (by rw [addr_blockK]; exact hk _ hb (hT.1 hl ad e))
    rw [e2]
    exact hc j v hj
theorem VT.In.both {T T' : Nat → Prop} : ∀ {v : VT}, v.In T → v.In T' → v.In (fun k => T k ∧ T' k) := by
  intro v
  induction v using VT.ind with
  | h k n s ao c l ih =>
    intro h h'
    rw [VT.In] at h h' ⊢
    exact ⟨fun hl ad e => ⟨h.1 hl ad e, h'.1 hl ad e⟩, inL_of fun x hx => ih x hx (inL_mem h.2 x hx) (inL_mem h'.2 x hx)⟩
end Go.Proofs.YtnfobnnbeefeeaaGreatDoor.Wi
