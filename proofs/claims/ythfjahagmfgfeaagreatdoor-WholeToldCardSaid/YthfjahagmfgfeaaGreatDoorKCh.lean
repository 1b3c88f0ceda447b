/- parseField. -/
import Derived.Test.YthfjahagmfgfeaaGreatDoorKCg
import Derived.Lib.SmallJoins
namespace Go.Proofs.YthfjahagmfgfeaaGreatDoor.Cr
open Go Go.RowKit
set_option linter.unusedVariables false
set_option linter.unusedSimpArgs false
theorem mask_append (A B : List Nat) : mask (A ++ B) = mask A ||| mask B := by
  induction A with
  | nil => simp [mask]
  | cons n A ih => rw [List.cons_append, mask, mask, ih, Nat.or_assoc]
/-- What parseField answers of its parts: the error, the numbers. -/
def pfR : List (List UInt8) → Nat → Nat → Int × List Nat
  | [], _, _ => (0, [])
  | p :: ps, lo, hi => if (ppR p lo hi).1 ≠ 0 then ((ppR p lo hi).1, []) else if (pfR ps lo hi).1 ≠ 0 then ((pfR ps lo hi).1, []) else (0, (ppR p lo hi).2 ++ (pfR ps lo hi).2)
def fieldR (l : List UInt8) (lo hi : Nat) : Int × List Nat := pfR (splitL 44 l) lo hi
theorem psE_bd (l : List UInt8) : 0 ≤ psE l ∧ psE l ≤ 8 := by
  unfold psE
  split
  · decide
  · split <;> decide
theorem ppR_bd (l : List UInt8) (lo hi : Nat) : 0 ≤ (ppR l lo hi).1 ∧ (ppR l lo hi).1 ≤ 8 := by
  unfold ppR
  split
  · exact psE_bd _
  · split
    · decide
    · split <;> simp
theorem ppR_lt (l : List UInt8) (lo hi : Nat) (hhi : hi ≤ 63) : ∀ n ∈ (ppR l lo hi).2, n < 64 := by
  intro n hn
  unfold ppR at hn
  split at hn
  · cases hn
  · split at hn
    · cases hn
    · split at hn
      · cases hn
      · rename_i p _ h
        have := ap_le p.1 n hn
        omega
theorem splitL_mem (c : UInt8) : ∀ (l x : List UInt8), x ∈ splitL c l → x.length ≤ l.length
  | [], x, h => by simp [splitL] at h; subst h; exact Nat.le_refl _
  | b :: l, x, h => by
    rw [splitL] at h
    split at h
    · rcases List.mem_cons.1 h with rfl | h
      · exact Nat.zero_le _
      · have := splitL_mem c l x h
        simp only [List.length_cons]; omega
    · have ih := splitL_mem c l
      cases hq : splitL c l with
      | nil => rw [hq] at h; simp at h; subst h; simp
      | cons y ys =>
        rw [hq] at h ih
        rcases List.mem_cons.1 h with rfl | h
        · have := ih y (by simp); simp; exact this
        · have := ih x (by simp [h]); simp only [List.length_cons]; omega
theorem strVs_at {w : World} {g : Nat} {P : List (List UInt8)} (h : w.heap[g]? = some (.cells (strVs P).toArray 9 (0, 0))) {k : Nat} (hk : k < P.length) : w.cell? ⟨g, k, none⟩ = some (.string (str (P.getD k []))) := by
  rw [cell_of_rowW w g k _ _ _ h]
  simp [strVs, List.getD, hk]
/-- The parts that were read, the numbers that they have, and what is left. -/
def PfSt (P : List (List UInt8)) (lo hi k : Nat) (L : List Nat) : Prop :=
  k ≤ P.length ∧ (∀ n ∈ L, n < 64) ∧ pfR P lo hi = if (pfR (P.drop k) lo hi).1 ≠ 0 then ((pfR (P.drop k) lo hi).1, []) else (0, L ++ (pfR (P.drop k) lo hi).2)
theorem PfSt.zero (P : List (List UInt8)) (lo hi : Nat) : PfSt P lo hi 0 [] := by
  refine ⟨Nat.zero_le _, fun n hn => (by cases hn), ?_⟩
  rw [List.drop_zero]
  cases P with
  | nil => rfl
  | cons p ps =>
    split
    · rename_i h
      rw [pfR] at h ⊢
      split
      · rfl
      · split
        · rfl
        · rename_i h1 h2; rw [if_neg h1, if_neg h2] at h; exact absurd rfl h
    · rename_i h
      rw [pfR] at h ⊢
      split
      · rename_i h1; rw [if_pos h1] at h; exact absurd h1 h
      · split
        · rename_i h1 h2; rw [if_neg h1, if_pos h2] at h; exact absurd h2 h
        · rfl
theorem PfSt.bad {P : List (List UInt8)} {lo hi k : Nat} {L : List Nat} (h : PfSt P lo hi k L) (hk : k < P.length) (he : (ppR (P.getD k []) lo hi).1 ≠ 0) : pfR P lo hi = ((ppR (P.getD k []) lo hi).1, []) := by
  have hd : P.drop k = P.getD k [] :: P.drop (k + 1) := by rw [List.drop_eq_getElem_cons hk]; simp [List.getD, hk]
  rw [h.2.2, hd, pfR, if_pos he]
  rw [if_pos he]
theorem PfSt.next {P : List (List UInt8)} {lo hi k : Nat} {L : List Nat} (h : PfSt P lo hi k L) (hhi : hi ≤ 63) (hk : k < P.length) (he : (ppR (P.getD k []) lo hi).1 = 0) : PfSt P lo hi (k + 1) (L ++ (ppR (P.getD k []) lo hi).2) := by
  have hd : P.drop k = P.getD k [] :: P.drop (k + 1) := by rw [List.drop_eq_getElem_cons hk]; simp [List.getD, hk]
  refine ⟨hk, fun n hn => ?_, ?_⟩
  · rcases List.mem_append.1 hn with hn | hn
    · exact h.2.1 n hn
    · exact ppR_lt _ _ _ hhi n hn
  · rw [h.2.2, hd, pfR, if_neg (not_not_intro he)]
    by_cases h2 : (pfR (P.drop (k + 1)) lo hi).1 = 0
    · rw [if_neg (not_not_intro h2), if_neg (not_not_intro h2), if_neg (not_not_intro rfl), List.append_assoc]
    · rw [if_pos h2, if_pos h2, if_pos h2]
theorem PfSt.done {P : List (List UInt8)} {lo hi : Nat} {L : List Nat} (h : PfSt P lo hi P.length L) : pfR P lo hi = (0, L) := by
  rw [h.2.2, List.drop_length]
  simp [pfR]
/-- The worlds of parseField's loop. -/
structure PfW (w : World) (k3 k4 k6 g lo hi : Nat) (P : List (List UInt8)) (st : Bool) (L : List Nat) (wr : World) : Prop where
  span : wr.heap[k3]? = some (.cells #[.int .i64 (lo : Int), .int .i64 (hi : Int)] 99 (0, 0))
  res : wr.heap[k4]? = some (.cells #[.int .u64 0, .bool false] 92 (0, 0))
  fld : wr.heap[k6]? = some (.cells #[.int .u64 (mask L : Int), .bool st] 92 (0, 0))
  strs : wr.heap[g]? = some (.cells (strVs P).toArray 9 (0, 0))
  blw : Below w.heap.size w wr
theorem PfW.below {w wr w' : World} {k3 k4 k6 g lo hi : Nat} {P : List (List UInt8)} {st : Bool} {L : List Nat} (h : PfW w k3 k4 k6 g lo hi P st L wr) (hb : Below wr.heap.size wr w') : PfW w k3 k4 k6 g lo hi P st L w' :=
  ⟨(hb.block _ (lt_of_rowW h.span)).trans h.span, (hb.block _ (lt_of_rowW h.res)).trans h.res, (hb.block _ (lt_of_rowW h.fld)).trans h.fld, (hb.block _ (lt_of_rowW h.strs)).trans h.strs, h.blw.trans (hb.mono h.blw.size)⟩
def pfRel (w : World) (k3 k4 k6 g lo hi : Nat) (P : List (List UInt8)) (st : Bool) (i : Value) (wr : World) : Prop :=
  ∃ (k : Nat) (L : List Nat), i = .int .i64 (k : Int) ∧ PfSt P lo hi k L ∧ PfW w k3 k4 k6 g lo hi P st L wr
/-- What parseField answers. -/
def fieldV (r : Int × List Nat) (st : Bool) : Value := .agg #[.int .u64 (mask r.2 : Int), .bool (if r.1 = 0 then st else false)]
set_option maxHeartbeats 4000000 in
theorem pfield_any (l : List UInt8) (hl : l.length < 4294967281) (lo hi : Nat) (hlo : lo ≤ 63) (hhi : hi ≤ 63) (w : World) (hT : CT w) :
    Calls Tryz.prog 67 #[.string (str l), .agg #[.int .i64 (lo : Int), .int .i64 (hi : Int)]] w fun e w' => e = .returned (.tuple #[fieldV (fieldR l lo hi) (decide (l = [42])), .int .i64 (fieldR l lo hi).1]) ∧ Below w.heap.size w w' := by
  obtain ⟨w1, hw1⟩ : ∃ w1, w1 = w.alloc (.cells #[.int .i64 (lo : Int), .int .i64 (hi : Int)] 99) := ⟨_, rfl⟩
  obtain ⟨k3, hk3⟩ : ∃ k, k = w.heap.size := ⟨_, rfl⟩
  obtain ⟨w2, hw2⟩ : ∃ w2, w2 = w1.alloc (.cells #[.int .u64 0, .bool false] 92) := ⟨_, rfl⟩
  obtain ⟨k4, hk4⟩ : ∃ k, k = w.heap.size + 1 := ⟨_, rfl⟩
  have hk4' : k4 = w1.heap.size := by rw [hk4, hw1]; simp
  have hb1 : Below w.heap.size w w1 := by rw [hw1]; exact (Below.refl _ _).alloc (Nat.le_refl _) _
  have hb2 : Below w1.heap.size w1 w2 := by rw [hw2]; exact (Below.refl _ _).alloc (Nat.le_refl _) _
  have n3 : w1.heap[k3]? = some (.cells #[.int .i64 (lo : Int), .int .i64 (hi : Int)] 99 (0, 0)) := by rw [hw1, hk3]; exact heap_alloc_new _ _
  have n4 : w2.heap[k4]? = some (.cells #[.int .u64 0, .bool false] 92 (0, 0)) := by rw [hw2, hk4']; exact heap_alloc_new _ _
  obtain ⟨st, hst⟩ : ∃ st, st = decide (l = [42]) := ⟨_, rfl⟩
  obtain ⟨w3, hw3⟩ : ∃ w3, w3 = w2.alloc (.cells #[.int .u64 0, .bool st] 92) := ⟨_, rfl⟩
  obtain ⟨k6, hk6⟩ : ∃ k, k = w2.heap.size := ⟨_, rfl⟩
  have hb3 : Below w2.heap.size w2 w3 := by rw [hw3]; exact (Below.refl _ _).alloc (Nat.le_refl _) _
  have n6 : w3.heap[k6]? = some (.cells #[.int .u64 0, .bool st] 92 (0, 0)) := by rw [hw3, hk6]; exact heap_alloc_new _ _
  have hb13 : Below w.heap.size w w3 := (hb1.trans (hb2.mono hb1.size)).trans (hb3.mono (hb1.trans (hb2.mono hb1.size)).size)
  have sc := split_any 44 l hl w3 (hT.below hb13 (Nat.le_refl _))
  obtain ⟨P, hP⟩ : ∃ P, P = splitL 44 l := ⟨_, rfl⟩
  have hPl : P.length ≤ 4294967281 := by rw [hP, splitL_len]; have := List.count_le_length (a := 44) (l := l); omega
  have hPm : ∀ x ∈ P, x.length < 4294967281 := fun x hx => by rw [hP] at hx; have := splitL_mem 44 l x hx; omega
  rw [← hP] at sc
  obtain ⟨w4, hw4⟩ : ∃ w4, w4 = w3.alloc (.cells (strVs P).toArray 9) := ⟨_, rfl⟩
  obtain ⟨g, hg⟩ : ∃ g, g = w3.heap.size := ⟨_, rfl⟩
  rw [← hw4, ← hg] at sc
  have hb4 : Below w3.heap.size w3 w4 := by rw [hw4]; exact (Below.refl _ _).alloc (Nat.le_refl _) _
  have ng : w4.heap[g]? = some (.cells (strVs P).toArray 9 (0, 0)) := by rw [hw4, hg]; exact heap_alloc_new _ _
  have n33 := (hb3.block k3 (lt_of_rowW ((hb2.block k3 (lt_of_rowW n3)).trans n3))).trans ((hb2.block k3 (lt_of_rowW n3)).trans n3)
  have n43 := (hb3.block k4 (lt_of_rowW n4)).trans n4
  have W4 := Lib.hid (show PfW w k3 k4 k6 g lo hi P st [] w4 from ⟨(hb4.block _ (lt_of_rowW n33)).trans n33, (hb4.block _ (lt_of_rowW n43)).trans n43, (hb4.block _ (lt_of_rowW n6)).trans n6, ng, hb13.trans (hb4.mono hb13.size)⟩)
  obtain ⟨S, hS⟩ : ∃ S, S = str l := ⟨_, rfl⟩
  have hs2 : (S.toList == [42]) = st := by rw [hS, ByteArray.toList_eq, str_data, hst, Bool.eq_iff_iff, beq_iff_eq, decide_eq_true_eq]
  obtain ⟨F, hF⟩ : ∃ F, F = fieldR l lo hi := ⟨_, rfl⟩
  have hF2 : F = pfR P lo hi := by rw [hF, hP]; rfl
  rw [← hS, ← hst, ← hF]
  rw [← hS] at sc
  have HF := Lib.hid hF2
  have HW1 := Lib.hid hw1
  have HW2 := Lib.hid hw2
  have HW3 := Lib.hid hw3
  have HK3 := Lib.hid hk3
  have HK4 := Lib.hid hk4
  have HK6 := Lib.hid hk6
  have SC := Lib.hid sc
  have HT := Lib.hid hT
  have HPM := Lib.hid hPm
  have HNE := Lib.hid (show w.heap.size ≤ k4 ∧ w.heap.size ≤ k6 ∧ k4 ≠ k6 ∧ k3 ≠ k6 ∧ g ≠ k6 from by
    have a1 := lt_of_rowW n3
    have a2 := lt_of_rowW n4
    have a3 := lt_of_rowW n6
    have a4 := hb2.size
    exact ⟨by omega, by have := hb1.size; omega, by omega, by omega, by omega⟩)
  have HSZ := Lib.hid (show ∀ (a : Int) (b : Bool), (Tryz.prog.info? 92).map (·.size) = some (#[.int .u64 a, .bool b] : Array Value).size from fun a b => by kernel_rfl)
  clear hw1 hk3 hw2 hk4 hk4' hb1 hb2 n3 n4 hst hw3 hk6 hb3 n6 hb13 sc hP hPm hw4 hg hb4 ng n33 n43 hS hF hF2 hT
  go_enter Tryz.func67, Tryz.ntmps67
  go_upto_region 1 with fail
  rw [← HW1.out, ← HW2.out, ← HK4.out, ← HK3.out]
  go_upto_region 2 with fail
  rw [← HW3.out, ← HK6.out]
  go_wp2_with fail
  refine SC.out.mono ?_
  rintro e w' ⟨rfl, h⟩
  have h2 := h.symm
  subst h2
  clear SC h
  obtain ⟨np, hnp⟩ : ∃ np, np = P.length := ⟨_, rfl⟩
  rw [← hnp] at hPl ⊢
  have R0 := Lib.hid (show pfRel w k3 k4 k6 g lo hi P st (.int .i64 0) w4 from ⟨0, [], rfl, PfSt.zero P lo hi, W4.out⟩)
  have HNP := Lib.hid hnp
  clear hnp
  go_wp2_with fail
  go_loopw [18] (fun i wr => pfRel w k3 k4 k6 g lo hi P st i wr) (fun i _ => np - (intOf i).toNat)
  case atStart => exact R0.out
  case round =>
    obtain ⟨wq, rfl⟩ : ∃ wq : World, wq = wr := ⟨_, rfl⟩
    obtain ⟨k, L, rfl, hst, hw⟩ := hrel
    have HST := Lib.hid hst
    have HW := Lib.hid hw
    have hkn : k ≤ np := by rw [HNP.out]; exact hst.1
    clear hst hw R0
    by_cases hlt : k < np
    · have hkk : (k : Int) < (np : Int) := by omega
      obtain ⟨p, hp⟩ : ∃ p, p = P.getD k [] := ⟨_, rfl⟩
      have hcell := strVs_at HW.out.strs (k := k) (by rw [← HNP.out]; exact hlt)
      have hpm : p.length < 4294967281 := HPM.out p (by rw [hp]; simp only [List.getD]; rw [List.getElem?_eq_getElem (by rw [← HNP.out]; exact hlt)]; exact List.getElem_mem _)
      rw [← hp] at hcell
      have d0 : wq.cell? ⟨k3, 0, none⟩ = some (.int .i64 (lo : Int)) := by rw [cell_of_rowW wq k3 0 _ _ _ HW.out.span]; rfl
      have d1 : wq.cell? ⟨k3, 1, none⟩ = some (.int .i64 (hi : Int)) := by rw [cell_of_rowW wq k3 1 _ _ _ HW.out.span]; rfl
      have hbd := ppR_bd p lo hi
      have hml := mask_lt (ppR_lt p lo hi hhi)
      have pc := ppart_any p hpm lo hi hlo hhi wq.drew (HT.out.below (below_drewN HW.out.blw 1) (Nat.le_refl _))
      obtain ⟨E, hE⟩ : ∃ E, E = (ppR p lo hi).1 := ⟨_, rfl⟩
      obtain ⟨N, hN⟩ : ∃ N, N = mask (ppR p lo hi).2 := ⟨_, rfl⟩
      rw [← hE] at pc hbd
      rw [← hN] at pc hml
      obtain ⟨SP, hSP⟩ : ∃ SP, SP = str p := ⟨_, rfl⟩
      rw [← hSP] at pc hcell
      have PC := Lib.hid pc
      have HE := Lib.hid hE
      have HN := Lib.hid hN
      have HP := Lib.hid hp
      clear pc hE hN hp hSP hpm
      go_wp2_with fail
      go_region_with (go_at_call 94; refine PC.out.mono ?_; rintro e w' ⟨rfl, hb⟩)
      all_goals
        have hw5 := HW.out.below ((below_drewN (Below.refl wq.heap.size wq) 1).trans hb)
        have HW5 := Lib.hid hw5
        obtain ⟨M, hM⟩ : ∃ M, M = mask L := ⟨_, rfl⟩
        have n6 := hw5.fld
        rw [← hM] at n6
        have HM := Lib.hid hM
        have hMl : M < 18446744073709551616 := by rw [hM]; exact mask_lt HST.out.2.1
        have N6 := Lib.hid n6
        clear hb hw5 hM n6 d0 d1 hcell
        by_cases hE0 : E = 0
        · subst hE0
          have HNX := Lib.hid (show PfSt P lo hi (k + 1) (L ++ (ppR p lo hi).2) from by
            have := HST.out.next hhi (by rw [← HNP.out]; exact hlt) (by rw [← HP.out, ← HE.out])
            rw [← HP.out] at this
            exact this)
          have hor : bits BinOp.or IntKind.u64 (M : Int) (N : Int) = ((M ||| N : Nat) : Int) := u64_or_nat _ _ hMl hml
          have hmn : M ||| N = mask (L ++ (ppR p lo hi).2) := by rw [mask_append, HM.out, HN.out]
          obtain ⟨Z, hZ⟩ : ∃ Z, Z = M ||| N := ⟨_, rfl⟩
          rw [← hZ] at hor hmn
          have HOR := Lib.hid hor
          have HMN := Lib.hid hmn
          have c0 : w'.cell? ⟨k6, 0, none⟩ = some (.int .u64 (M : Int)) := by rw [cell_of_rowW w' k6 0 _ _ _ N6.out]; rfl
          have f0 := frozen_of_row w' k6 0 _ _ N6.out
          have RR := Lib.hid (show pfRel w k3 k4 k6 g lo hi P st (.int .i64 ((k + 1 : Nat) : Int)) (w'.setCell ⟨k6, 0, none⟩ (.int .u64 (Z : Int))) from
            ⟨k + 1, L ++ (ppR p lo hi).2, rfl, HNX.out, ⟨(Below.heap_setCell w' ⟨k6, 0, none⟩ _ k3 HNE.out.2.2.2.1).trans HW5.out.span, (Below.heap_setCell w' ⟨k6, 0, none⟩ _ k4 HNE.out.2.2.1).trans HW5.out.res,
              (by have h := Go.Joins.block_setCell (i := 0) N6.out (.int .u64 (Z : Int)); rw [HMN.out] at h; rw [HMN.out]; exact h), (Below.heap_setCell w' ⟨k6, 0, none⟩ _ g HNE.out.2.2.2.2).trans HW5.out.strs, HW5.out.blw.setCell HNE.out.2.1 _⟩⟩)
          clear hor hmn hZ
          go_wp2
          rw [HOR.out]
          exact ⟨RR.out, by simp [intOf]; omega⟩
        · have hF : F = (E, []) := by
            have := HST.out.bad (by rw [← HNP.out]; exact hlt) (by rw [← HP.out, ← HE.out]; exact hE0)
            rw [← HF.out, ← HP.out, ← HE.out] at this
            exact this
          have hF' := Lib.hid hF
          have hE1 : (E == 0) = false := by simpa using hE0
          clear hF
          go_wp2_with (with_reducible show wpList _ _ _ _ _ _; refine wpList_store_whole rfl 92 (.tmp 4) (.tmp 32) rfl k4 92 _ #[.int .u64 0, .bool false] rfl rfl HW5.out.res (HSZ.out _ _) rfl (by kernel_rfl) ?_)
          refine bodyPost_ret (results_row_tmp rfl _ _ k4 92 [.int .u64 0, .bool false] (0, 0) _ _ rfl rfl (setRow_heap _ k4 _ _ _ _ HW5.out.res) Tryz.underlying92 rfl (HSZ.out _ _)) rfl ?_
          refine ⟨?_, below_setRow HW5.out.blw HNE.out.1 _⟩
          rw [hF'.out]
          simp only [fieldV, if_neg hE0]
          rfl
    · obtain rfl : k = np := by omega
      have hkk : ¬ (k : Int) < (k : Int) := by omega
      have hst2 := HST.out
      rw [HNP.out] at hst2
      have hF := hst2.done
      rw [← HF.out] at hF
      have hF' := Lib.hid hF
      have hml := mask_lt HST.out.2.1
      obtain ⟨M, hM⟩ : ∃ M, M = mask L := ⟨_, rfl⟩
      have n6 := HW.out.fld
      rw [← hM] at n6 hml
      have c0 : wq.cell? ⟨k6, 0, none⟩ = some (.int .u64 (M : Int)) := by rw [cell_of_rowW wq k6 0 _ _ _ n6]; rfl
      have c1 : wq.cell? ⟨k6, 1, none⟩ = some (.bool st) := by rw [cell_of_rowW wq k6 1 _ _ _ n6]; rfl
      have HM := Lib.hid hM
      clear hF hst2 hM n6
      go_wp2_with (with_reducible show wpList _ _ _ _ _ _; refine wpList_store_whole rfl 92 (.tmp 4) (.tmp 40) rfl k4 92 _ #[.int .u64 (M : Int), .bool st] rfl rfl HW.out.res (HSZ.out _ _) rfl (by kernel_rfl) ?_)
      refine bodyPost_ret (results_row_tmp rfl _ _ k4 92 [.int .u64 (M : Int), .bool st] (0, 0) _ _ rfl rfl (setRow_heap _ k4 _ _ _ _ HW.out.res) Tryz.underlying92 rfl (HSZ.out _ _)) rfl ?_
      refine ⟨?_, below_setRow HW.out.blw HNE.out.1 _⟩
      rw [hF'.out, HM.out]
      rfl
end Go.Proofs.YthfjahagmfgfeaaGreatDoor.Cr
