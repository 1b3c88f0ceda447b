/- The law RingParts: its walk. -/
import Derived.Test.YtllnaocnojhlkaaUg
import Derived.Test.YtllnaocnojhlkaaVd
import Derived.Test.YtllnaocnojhlkaaDx
import Derived.Deep.RegionWith
namespace Go.Proofs.Ytllnaocnojhlkaa.Dk
open Go Go.RowKit
set_option linter.unusedVariables false
set_option linter.unusedSimpArgs false

/-- Where a loop stands that raises each byte of a slice's first n bytes. -/
def RaRel (w1 : World) (k n : Nat) (t : TypeId) (u : Value) (wr : World) : Prop :=
  ∃ (j : Nat) (cur : Array Value), u = .int .i64 (j : Int) ∧ j ≤ n ∧ (∀ i, i < n → ∃ z : Int, cur[i]? = some (.int .u8 z)) ∧ (0 < n → wr.heap[k]? = some (.cells cur t (0, 0))) ∧ Frm (fun i => i = k ∧ 0 < n) w1 wr
theorem ra_start {w1 : World} {k n : Nat} {t : TypeId} {cur : Array Value} (h : 0 < n → w1.heap[k]? = some (.cells cur t (0, 0))) (hl : ∀ i, i < n → ∃ z : Int, cur[i]? = some (.int .u8 z)) :
    RaRel w1 k n t (.int .i64 0) w1 := ⟨0, cur, rfl, by omega, hl, h, Frm.refl _ _⟩
theorem ra_step {w1 wr : World} {k n j : Nat} {t : TypeId} {cur : Array Value} (hj : j < n) (hz : ∀ i, i < n → ∃ z : Int, cur[i]? = some (.int .u8 z)) (h : 0 < n → wr.heap[k]? = some (.cells cur t (0, 0))) (hF : Frm (fun i => i = k ∧ 0 < n) w1 wr) :
    ∃ z0 : Int, wr.cell? ⟨k, j, none⟩ = some (.int .u8 z0) ∧ wr.frozen? ⟨k, j, none⟩ = false ∧ ∀ z : Int, RaRel w1 k n t (.int .i64 ((j + 1 : Nat) : Int)) (wr.setCell ⟨k, j, none⟩ (.int .u8 z)) := by
  have hr := h (by omega)
  obtain ⟨z0, hz0⟩ := hz j hj
  refine ⟨z0, ?_, frozen_of_row wr k j _ _ hr, fun z => ⟨j + 1, cur.setIfInBounds j (.int .u8 z), rfl, by omega, fun i hi => ?_, fun _ => Go.Joins.block_setCell (i := j) hr (.int .u8 z), hF.setCell (p := ⟨k, j, none⟩) (.inl ⟨rfl, by omega⟩) _⟩⟩
  · rw [cell_of_row wr k j _ _ _ hr, hz0]
  · by_cases e : i = j
    · subst e
      have hlt : i < cur.size := (Array.getElem?_eq_some_iff.1 hz0).1
      exact ⟨z, by simp [hlt]⟩
    · obtain ⟨z1, h1⟩ := hz i hi
      exact ⟨z1, by rw [Array.getElem?_setIfInBounds_ne (by omega)]; exact h1⟩
theorem ra_bvs {l : List UInt8} {n : Nat} (h : l.length = n) : ∀ i, i < n → ∃ z : Int, (bvs l).toArray[i]? = some (.int .u8 z) := by
  intro i hi
  refine ⟨((l.getD i 0).toNat : Int), ?_⟩
  have : i < l.length := by omega
  simp [bvs, bv, List.getD, this]
/-- Where the loop stands that joins the parts. -/
def JoRel (w0 : World) (L : List (List UInt8)) (va u : Value) (wr : World) : Prop :=
  ∃ k : Nat, u = .int .i64 (k : Int) ∧ k ≤ L.length ∧ wr.ownsRow w0.heap.size 5 1 va (sumLen (L.take k)) (bvs (L.take k).flatten) ∧ (∀ j, j < k → (L.getD j []).length ≤ 40) ∧ Below w0.heap.size w0 wr
theorem sum_small {L : List (List UInt8)} : ∀ k, (∀ j, j < k → (L.getD j []).length ≤ 40) → k ≤ L.length → sumLen (L.take k) ≤ 40 * k
  | 0, _, _ => by simp [sumLen]
  | k + 1, h, hk => by
    have ih := sum_small k (fun j hj => h j (by omega)) (by omega)
    rw [sumLen_take (by omega)]
    have := h k (by omega)
    omega
/-- A slice of these n bytes, in a row from block B on if it has one. -/
def Lies (w : World) (B : Nat) (am : Option Addr) (n : Nat) (F : List UInt8) : Prop :=
  F.length = n ∧ (am = none → n = 0) ∧ ∀ a, am = some a → ∃ gm cur, a = ⟨gm, 0, none⟩ ∧ B ≤ gm ∧ w.heap[gm]? = some (.cells cur 5 (0, 0)) ∧ cur.toList.take n = bvs F
theorem lies_of {w : World} {B : Nat} {v : Value} {n : Nat} {F : List UInt8} (h : w.ownsRow B 5 1 v n (bvs F)) : ∃ am c, v = .slice am n c ∧ Lies w B am n F := by
  have hl : F.length = n := by have := h.1; rw [bvs_length] at this; omega
  rcases h.2 with ⟨rfl, h0⟩ | ⟨g, cap, cur, rfl, hb, hh, h1, h2, h3, h4⟩
  · subst h0
    exact ⟨none, 0, rfl, hl, (fun _ => rfl), fun a e => by cases e⟩
  · exact ⟨_, cap, rfl, hl, (fun e => by cases e), fun a e => by cases e; exact ⟨g, cur, rfl, hb, hh, by rw [Nat.mul_one] at h4; exact h4⟩⟩
theorem Lies.frame {w w' : World} {B n : Nat} {am : Option Addr} {F : List UInt8} {T : Nat → Prop} (h : Lies w B am n F) (f : Frm T w w') (hT : ∀ i, am = some ⟨i, 0, none⟩ → ¬ T i) : Lies w' B am n F :=
  ⟨h.1, h.2.1, fun a ha => by
    obtain ⟨gm, cur, rfl, hb, hr, ht⟩ := h.2.2 a ha
    exact ⟨gm, cur, rfl, hb, (f.block gm (lt_of_row hr) (hT gm ha)).trans hr, ht⟩⟩
theorem Lies.lt {w : World} {B n i : Nat} {am : Option Addr} {F : List UInt8} (h : Lies w B am n F) (hi : am = some ⟨i, 0, none⟩) : B ≤ i ∧ i < w.heap.size := by
  obtain ⟨gm, cur, e, hb, hr, ht⟩ := h.2.2 _ hi
  cases e
  exact ⟨hb, lt_of_row hr⟩
theorem Lies.sl {w : World} {B n : Nat} {am : Option Addr} {F : List UInt8} (h : Lies w B am n F) (c : Nat) : Sl w (.slice am n c) F := by
  refine ⟨am, c, by rw [h.1], fun e => List.length_eq_zero_iff.1 (by rw [h.1]; exact h.2.1 e), fun a ha j u hu => ?_⟩
  obtain ⟨gm, cur, rfl, hb, hr, ht⟩ := h.2.2 a ha
  rw [Addr.add_mid, cell_of_row w gm (0 + j) _ _ _ hr, Nat.zero_add, ← Array.getElem?_toList]
  rw [← ht, List.getElem?_take] at hu
  split at hu
  · exact hu
  · cases hu
theorem Lies.src {w : World} {B n : Nat} {am : Option Addr} {F : List UInt8} (h : Lies w B am n F) (c : Nat) : Src Try.prog 1 32 (.slice am n c) n (bvs F) w := by
  obtain ⟨_, _, e5, hno, hsr⟩ := h.sl c
  injection e5 with e6 e7 e8
  subst e6 e8
  exact Src.any (P := Try.prog) w (e' := 5) (size := 1) Try.underlying32 am n c (bvs F) (by rw [bvs_length, Nat.mul_one, h.1]) h.2.1 hsr (bvs_one F)
/-- Its block, if it has one, and its numbers. -/
theorem Lies.open {w : World} {B n : Nat} {am : Option Addr} {F : List UInt8} (h : Lies w B am n F) : ∃ gm cur, B ≤ gm ∧ (0 < n → am = some ⟨gm, 0, none⟩ ∧ gm < w.heap.size ∧ w.heap[gm]? = some (.cells cur 5 (0, 0))) ∧ ∀ i, i < n → ∃ z : Int, cur[i]? = some (.int .u8 z) := by
  cases am with
  | none => have := h.2.1 rfl; exact ⟨B, #[], Nat.le_refl _, fun h => by omega, fun i hi => by omega⟩
  | some a =>
    obtain ⟨gm, cur, rfl, hb, hr, ht⟩ := h.2.2 a rfl
    refine ⟨gm, cur, hb, fun _ => ⟨rfl, lt_of_row hr, hr⟩, fun i hi => ⟨((F.getD i 0).toNat : Int), ?_⟩⟩
    have h1 : (cur.toList.take n)[i]? = some (bv (F.getD i 0)) := by
      have : i < F.length := by rw [h.1]; exact hi
      rw [ht]
      simp [bvs, List.getD, this]
    rw [List.getElem?_take, if_pos hi] at h1
    rw [← Array.getElem?_toList, h1]
    rfl
theorem Lies.parts {w : World} {B n : Nat} {am : Option Addr} {F : List UInt8} (h : Lies w B am n F) (c : Nat) (hB : B ≤ w.heap.size) :
    Parts (w.alloc (.cells #[.slice am n c] 32 (0, 0))) (.slice (some ⟨w.heap.size, 0, none⟩) 1 1) [F] := by
  refine ⟨_, 1, rfl, fun j hj => ⟨_, rfl, am, c, ?_⟩⟩
  obtain rfl : j = 0 := by simpa using hj
  have e : ([F] : List (List UInt8)).getD 0 [] = F := rfl
  rw [e, h.1]
  refine ⟨?_, (h.frame (T := fun _ => False) ((Frm.refl _ w).alloc _) (fun _ _ => id)).sl c⟩
  rw [zadd, cell_of_row _ w.heap.size 0 _ _ _ (heap_alloc_new w _)]
  rfl
/-- Two rings, each over a disk of its own, that keep the same text; and that text. -/
structure Two (w : World) (B : Nat) (r d k g m n0 : Nat) (S : List UInt8) (t : TypeId) (x : DS) (r2 d2 k2 g2 m2 n2 : Nat) (S2 : List UInt8) (t2 : TypeId) (x2 : DS) (aa : Option Addr) (n : Nat) (F : List UInt8) : Prop where
  R : RingAt w r d k 0 8 F.length S t
  E : DiskAt Try.prog w d g m n0 x
  R2 : RingAt w r2 d2 k2 0 8 F.length S2 t2
  E2 : DiskAt Try.prog w d2 g2 m2 n2 x2
  al : Lies w B aa n F
/-- The blocks that they have. -/
def twoOwn (r d k g m r2 d2 k2 g2 m2 : Nat) (aa : Option Addr) (i : Nat) : Prop := i = r ∨ i = k ∨ own3 d g m i ∨ i = r2 ∨ i = k2 ∨ own3 d2 g2 m2 i ∨ aa = some ⟨i, 0, none⟩
variable {w w' : World} {B r d k g m n0 : Nat} {S : List UInt8} {t : TypeId} {x : DS} {r2 d2 k2 g2 m2 n2 : Nat} {S2 : List UInt8} {t2 : TypeId} {x2 : DS} {aa : Option Addr} {n : Nat} {F : List UInt8}
theorem Two.frame {T : Nat → Prop} (h : Two w B r d k g m n0 S t x r2 d2 k2 g2 m2 n2 S2 t2 x2 aa n F) (f : Frm T w w') (hT : ∀ i, T i → ¬ twoOwn r d k g m r2 d2 k2 g2 m2 aa i) : Two w' B r d k g m n0 S t x r2 d2 k2 g2 m2 n2 S2 t2 x2 aa n F :=
  ⟨h.R.frame f (fun e => hT _ e (.inl rfl)) (fun e => hT _ e (.inr (.inl rfl))),
   h.E.frame f (fun e => hT _ e (.inr (.inr (.inl (.inl rfl))))) (fun e => hT _ e (.inr (.inr (.inl (.inr (.inl rfl)))))) (fun e => hT _ e (.inr (.inr (.inl (.inr (.inr rfl)))))),
   h.R2.frame f (fun e => hT _ e (.inr (.inr (.inr (.inl rfl))))) (fun e => hT _ e (.inr (.inr (.inr (.inr (.inl rfl)))))),
   h.E2.frame f (fun e => hT _ e (.inr (.inr (.inr (.inr (.inr (.inl (.inl rfl)))))))) (fun e => hT _ e (.inr (.inr (.inr (.inr (.inr (.inl (.inr (.inl rfl))))))))) (fun e => hT _ e (.inr (.inr (.inr (.inr (.inr (.inl (.inr (.inr rfl))))))))),
   h.al.frame f (fun i hi e => hT _ e (.inr (.inr (.inr (.inr (.inr (.inr hi)))))))⟩
theorem Two.lt (h : Two w B r d k g m n0 S t x r2 d2 k2 g2 m2 n2 S2 t2 x2 aa n F) (i : Nat) (hi : twoOwn r d k g m r2 d2 k2 g2 m2 aa i) : i < w.heap.size := by
  rcases hi with rfl | rfl | (rfl | rfl | rfl) | rfl | rfl | (rfl | rfl | rfl) | hi
  · exact h.R.rlt
  · exact h.R.klt
  · exact h.E.dlt
  · exact h.E.glt
  · exact h.E.mlt
  · exact h.R2.rlt
  · exact h.R2.klt
  · exact h.E2.dlt
  · exact h.E2.glt
  · exact h.E2.mlt
  · exact (h.al.lt hi).2
theorem Two.below (h : Two w B r d k g m n0 S t x r2 d2 k2 g2 m2 n2 S2 t2 x2 aa n F) (f : Below w.heap.size w w') : Two w' B r d k g m n0 S t x r2 d2 k2 g2 m2 n2 S2 t2 x2 aa n F :=
  h.frame (T := fun _ => False) (Frm.of_below f (Nat.le_refl _)) (fun _ h => h.elim)
set_option maxRecDepth 100000 in
set_option maxHeartbeats 4000000 in
theorem rparts_long (ao : Option Addr) (c : Nat) (L : List (List UInt8)) (w : World) (h : 20 < L.length) :
    Calls Try.prog 5 #[.slice ao L.length c] w fun e w' => e = .returned (.bool true) ∧ Below w.heap.size w w' := by
  have hi : (20 : Int) < (L.length : Int) := by omega
  have GO := Lib.hid (goes_any w)
  go_enter Try.func5, Try.ntmps5
  go_wp2_with fail
  refine GO.out.mono ?_
  rintro e w0 ⟨rfl, hB0⟩
  go_wp2_with fail
  go_ret
  exact ⟨rfl, hB0⟩
set_option maxRecDepth 100000 in
set_option maxHeartbeats 8000000 in
theorem rparts_short (ao : Option Addr) (c : Nat) (L : List (List UInt8)) (w : World) (hP : Parts w (.slice ao L.length c) L) (h : L.length ≤ 20) :
    Calls Try.prog 5 #[.slice ao L.length c] w fun e w' => e = .returned (.bool true) ∧ Below w.heap.size w w' := by
  have hi : ¬ (20 : Int) < (L.length : Int) := by omega
  obtain ⟨i0, hi0, hz0, hz1, hz2⟩ := info_parts Try.infoU8
  have GO := Lib.hid (goes_any w)
  have HP := Lib.hid hP
  clear hP
  go_enter Try.func5, Try.ntmps5
  go_wp2_with fail
  refine GO.out.mono ?_
  rintro e w0 ⟨rfl, hB0⟩
  have HB0 := Lib.hid hB0
  clear hB0 GO
  go_wp2_with fail
  refine (new_any 8 (by decide) (by decide) w0).mono ?_
  rintro e w1 ⟨d, g, m, rfl, hD1, hb1, hd, hg, hm⟩
  have HD1 := Lib.hid hD1
  have HB1 := Lib.hid (HB0.out.trans (hb1.mono HB0.out.size))
  have LO1 := Lib.hid (show ∀ i, own3 d g m i → w.heap.size ≤ i from fun i h => by have := HB0.out.size; rcases h with h | h | h <;> omega)
  have LT1 := Lib.hid (show ∀ i, own3 d g m i → i < w1.heap.size from fun i h => h.elim (fun h => h ▸ HD1.out.dlt) (fun h => h.elim (fun h => h ▸ HD1.out.glt) (fun h => h ▸ HD1.out.mlt)))
  clear hD1 hb1 hd hg hm
  go_wp2_with fail
  refine (new_any 8 (by decide) (by decide) w1).mono ?_
  rintro e w2 ⟨d2, g2, m2, rfl, hD2, hb2, hd, hg, hm⟩
  have HD2 := Lib.hid hD2
  have HE1 := Lib.hid (HD1.out.below hb2 (Nat.le_refl _))
  have HB2 := Lib.hid (HB1.out.trans (hb2.mono HB1.out.size))
  have LO2 := Lib.hid (show ∀ i, own3 d2 g2 m2 i → w1.heap.size ≤ i from fun i h => by rcases h with h | h | h <;> omega)
  have LT2 := Lib.hid (show ∀ i, own3 d2 g2 m2 i → i < w2.heap.size from fun i h => h.elim (fun h => h ▸ HD2.out.dlt) (fun h => h.elim (fun h => h ▸ HD2.out.glt) (fun h => h ▸ HD2.out.mlt)))
  have S12 := Lib.hid hb2.size
  clear hD2 hb2 hd hg hm
  go_wp2_with fail
  have OP := Lib.hid (open_keeps (first := 0) (count := 8) (N := 8) (S := []) HE1.out (keeps_nil (good_new 8)) (by decide) (by decide) (by decide))
  go_wp2_with fail
  refine OP.out.mono ?_
  rintro e w3 ⟨r, k, S, rfl, hR3, hK3, hb3, hr, hk⟩
  have HR3 := Lib.hid hR3
  have HK3 := Lib.hid hK3
  have HE3 := Lib.hid (HE1.out.below hb3 (Nat.le_refl _))
  have HF3 := Lib.hid (HD2.out.below hb3 (Nat.le_refl _))
  have HB3 := Lib.hid (HB2.out.trans (hb3.mono HB2.out.size))
  have HRK := Lib.hid (And.intro hr hk)
  clear hR3 hK3 hb3 hr hk OP
  go_wp2_with fail
  have OP := Lib.hid (open_keeps (first := 0) (count := 8) (N := 8) (S := []) HF3.out (keeps_nil (good_new 8)) (by decide) (by decide) (by decide))
  go_wp2_with fail
  refine OP.out.mono ?_
  rintro e w4 ⟨r2, k2, S2, rfl, hR4, hK4, hb4, hr, hk⟩
  have HR4 := Lib.hid (HR3.out.below hb4 (Nat.le_refl _))
  have HE4 := Lib.hid (HE3.out.below hb4 (Nat.le_refl _))
  have HF4 := Lib.hid (HF3.out.below hb4 (Nat.le_refl _))
  have HQ4 := Lib.hid hR4
  have HK4 := Lib.hid hK4
  have HB4 := Lib.hid (HB3.out.trans (hb4.mono HB3.out.size))
  have HRL := Lib.hid (And.intro hr hk)
  have S34 := Lib.hid hb4.size
  clear hR4 hK4 hb4 hr hk OP
  have J0 := Lib.hid (show JoRel w4 L (.slice none 0 0) (.int .i64 0) w4 from ⟨0, rfl, Nat.zero_le _, World.ownsRow_nil _ _ _ _, fun j hj => absurd hj (Nat.not_lt_zero j), Below.refl _ _⟩)
  go_wp2_with fail
  go_loopw [11, 54] (fun va u wr => JoRel w4 L va u wr) (fun _ u _ => L.length - (intOf u).toNat)
  case atStart => exact J0.out
  case round =>
    obtain ⟨wo, rfl⟩ : ∃ wo : World, wo = wr := ⟨_, rfl⟩
    obtain ⟨j, rfl, hj, hown, hsm, hB⟩ := hrel
    have HBW := Lib.hid hB
    have HBA := Lib.hid (HB4.out.trans (hB.mono HB4.out.size))
    by_cases hjl : j < L.length
    · have hji : (j : Int) < (L.length : Int) := by omega
      obtain ⟨ao', c', e', hc⟩ := HP.out.below HBA.out (Nat.le_refl _)
      injection e' with e1 e2 e3
      subst e1 e3
      obtain ⟨a, rfl, aj, cj, hcell, hsl⟩ := hc j hjl
      have stk := sumLen_take hjl
      have ftk := flat_take hjl
      have sms := sum_small j hsm hj
      obtain ⟨pt, hpt⟩ : ∃ pt, pt = L.getD j [] := ⟨_, rfl⟩
      rw [← hpt] at hcell hsl stk ftk
      obtain ⟨_, _, e5, hno, hsr⟩ := hsl
      injection e5 with e6 e7 e8
      subst e6 e8
      have SR := Lib.hid (Src.any (P := Try.prog) wo (e' := 5) (size := 1) Try.underlying32 aj pt.length cj (bvs pt) (by rw [bvs_length, Nat.mul_one]) (fun h => by rw [hno h]; rfl) hsr (bvs_one pt))
      have FT := Lib.hid ftk
      have ST := Lib.hid stk
      have SM := Lib.hid hsm
      have HO := Lib.hid hown
      have HPT := Lib.hid hpt
      have ptb := Lib.hid (show sumLen (L.take j) ≤ 800 from by omega)
      clear hc hno hsr ftk stk hpt hB hsm hown sms J0
      by_cases hp40 : 40 < pt.length
      · have hpi : (40 : Int) < (pt.length : Int) := by omega
        go_wp2_with fail
        go_ret
        exact ⟨rfl, HBA.out⟩
      · have hpi : ¬ (40 : Int) < (pt.length : Int) := by omega
        go_wp2_with (at_builtin; refine wpList_append_own_src _ rfl (.tmp 61) (.tmp 62) 32 32 rfl w4.heap.size 5 i0 (.int .u8 0) 1 1 Try.underlying32 hi0 hz0 hz1 hz2 rfl _ _ _ rfl HO.out _ pt.length (bvs pt) rfl SR.out (by unfold maxLen; have := ptb.out; omega) (by have := ptb.out; omega) HBW.out.size ?_)
        rintro v1 w5 ⟨ho, hgr, hat⟩
        have RL := Lib.hid (show JoRel w4 L v1 (.int .i64 ((j + 1 : Nat) : Int)) w5 from by
          refine ⟨j + 1, rfl, by omega, ?_, fun i hi => ?_, HBW.out.grown hgr HBW.out.size (fun i e => (HO.out.lt i e).1)⟩
          · rw [ST.out, FT.out, bvs_append]
            exact ho
          · by_cases e : i = j
            · subst e; rw [← HPT.out]; omega
            · exact SM.out i (by omega))
        clear ho hgr hat HO
        go_wp2_with fail
        exact ⟨RL.out, by simp [intOf]; omega⟩
    · obtain rfl : j = L.length := by omega
      have sms := sum_small _ hsm (Nat.le_refl _)
      rw [List.take_length] at hown sms
      have SM := Lib.hid hsm
      obtain ⟨F, hF⟩ : ∃ F, F = L.flatten := ⟨_, rfl⟩
      obtain ⟨n, hn⟩ : ∃ n, n = sumLen L := ⟨_, rfl⟩
      rw [← hF, ← hn] at hown
      have nb : n ≤ 800 := by omega
      obtain ⟨aa, ca, rfl, hsa⟩ := lies_of hown
      have HSA := Lib.hid hsa
      have HF := Lib.hid hF
      have HN := Lib.hid hn
      have hfa : Frm (fun _ => False) wo (wo.alloc (.cells #[] 5 (0, 0))) := (Frm.refl _ wo).alloc _
      have SR := Lib.hid ((hsa.frame hfa (fun _ _ => id)).src ca)
      have OM := Lib.hid (World.ownsRow_made (base := wo.heap.size) (e := 5) (size := 1) wo #[] 0 (Nat.le_refl _) (Nat.zero_le _) rfl)
      have SZ := Lib.hid hfa.size
      clear hown hsa hF hn hsm sms hB J0 hfa
      go_wp2_with (at_builtin; refine wpList_append_own_src _ rfl (.tmp 65) (.tmp 66) 32 32 rfl wo.heap.size 5 i0 (.int .u8 0) 1 1 Try.underlying32 hi0 hz0 hz1 hz2 rfl _ _ _ rfl OM.out _ n (bvs F) rfl SR.out (by unfold maxLen; omega) (by omega) SZ.out ?_)
      rintro v1 w6 ⟨ho, hgr, hat⟩
      obtain ⟨am, cm, rfl, hlm⟩ := lies_of ho
      have hb6 : Below wo.heap.size wo w6 := ((Below.refl _ wo).alloc (Nat.le_refl _) _).grown hgr SZ.out (fun i e => by cases e; exact Nat.le_refl _)
      have hsz6 : wo.heap.size < w6.heap.size := by
        have h1 := hgr.size
        have h2 : (wo.alloc (.cells #[] 5 (0, 0))).heap.size = wo.heap.size + 1 := Array.size_push _
        omega
      have HLM := Lib.hid hlm
      have HB6 := Lib.hid hb6
      have HB46 := Lib.hid (HBW.out.trans (hb6.mono HBW.out.size))
      have HBA6 := Lib.hid (HBA.out.trans (hb6.mono HBA.out.size))
      have NW := Lib.hid (show w1.heap.size ≤ w2.heap.size ∧ w2.heap.size ≤ r ∧ w2.heap.size ≤ k ∧ r < w3.heap.size ∧ k < w3.heap.size ∧ w3.heap.size ≤ r2 ∧ w3.heap.size ≤ k2 ∧ r2 < w4.heap.size ∧ k2 < w4.heap.size ∧ w4.heap.size ≤ wo.heap.size ∧ wo.heap.size < w6.heap.size from
        ⟨S12.out, HRK.out.1, HRK.out.2, HR3.out.rlt, HR3.out.klt, HRL.out.1, HRL.out.2, HQ4.out.rlt, HQ4.out.klt, HBW.out.size, hsz6⟩)
      have hrn : ¬ own3 d g m r := fun e => by have := LT1.out r e; have := NW.out; omega
      have hkn : ¬ own3 d g m k := fun e => by have := LT1.out k e; have := NW.out; omega
      have AP := Lib.hid (append_keeps (text := []) (HR4.out.below HB46.out (Nat.le_refl _)) (by decide) (HE4.out.below HB46.out (Nat.le_refl _)) HK3.out (by decide) hrn hkn (by decide) 0 (by decide) ao c L (HP.out.below HBA6.out (Nat.le_refl _)) (by omega) (by rw [← HN.out]; omega) (by rw [← HN.out, show leftN 0 ([] : List UInt8).length 8 = 1024 by decide]; omega))
      rw [List.nil_append, ← HF.out] at AP
      clear ho hgr hat SR OM SZ hb6 hlm hrn hkn hsz6
      go_wp2_with fail
      refine AP.out.mono ?_
      rintro e w7 ⟨rfl, k7, S7, t7, x7, n7, hR7, hk7, hkr, hkc, hE7, hn7, hK7, hF7⟩
      have hT1 : ∀ i, i = r ∨ own3 d g m i → i < w3.heap.size ∧ (i < w1.heap.size ∨ i = r) := by
        rintro i (e | e)
        · subst e; exact ⟨NW.out.2.2.2.1, .inr rfl⟩
        · have hlt := LT1.out i e; have := NW.out; exact ⟨by omega, .inl hlt⟩
      have hL7 := HLM.out.frame hF7 (fun i hi e => by have h1 := HLM.out.lt hi; have := hT1 i e; have := NW.out; omega)
      have hA7 := (HSA.out.frame (Frm.of_below HB6.out (Nat.le_refl _) : Frm (fun _ => False) wo w6) (fun _ _ => id)).frame hF7 (fun i hi e => by have h1 := HSA.out.lt hi; have := hT1 i e; have := NW.out; omega)
      have hQ7 := (HQ4.out.below HB46.out (Nat.le_refl _)).frame hF7 (fun e => by have := hT1 r2 e; have := NW.out; omega) (fun e => by have := hT1 k2 e; have := NW.out; omega)
      have hO2 : ∀ i, own3 d2 g2 m2 i → ¬ (i = r ∨ own3 d g m i) := by
        rintro i h2 e
        have := LO2.out i h2
        have := LT2.out i h2
        have := hT1 i e
        have := NW.out
        omega
      have hF7' := (HF4.out.below HB46.out (Nat.le_refl _)).frame hF7 (hO2 _ (.inl rfl)) (hO2 _ (.inr (.inl rfl))) (hO2 _ (.inr (.inr rfl)))
      have hs67 := hF7.size
      have hBelow7 : Below w.heap.size w w7 := HBA6.out.trans (hF7.below (fun i _ e => by
        rcases e with e | e
        · have h1 := NW.out; have := HB2.out.size; omega
        · exact LO1.out i e) HBA6.out.size)
      obtain ⟨w8, hw8⟩ : ∃ w8, w8 = w7.alloc (.cells #[.slice am n cm] 32 (0, 0)) := ⟨_, rfl⟩
      have f8 : Frm (fun _ => False) w7 w8 := by rw [hw8]; exact (Frm.refl _ w7).alloc _
      have hP8 := hL7.parts cm (by have := NW.out; omega)
      rw [← hw8] at hP8
      have hrn2 : ¬ own3 d2 g2 m2 r2 := fun e => by have := LT2.out r2 e; have := NW.out; omega
      have hkn2 : ¬ own3 d2 g2 m2 k2 := fun e => by have := LT2.out k2 e; have := NW.out; omega
      have hFl := HSA.out.1
      have eS : sumLen [F] = n := by simp [sumLen, hFl]
      have AP2 := Lib.hid (append_keeps (text := []) (hQ7.frame f8 id id) (by decide) (hF7'.frame f8 id id id) HK4.out (by decide) hrn2 hkn2 (by decide) 0 (by decide) _ 1 [F] hP8 (by simp) (by rw [eS]; omega) (by rw [eS, show leftN 0 ([] : List UInt8).length 8 = 1024 by decide]; omega))
      rw [List.nil_append, show [F].flatten = F by simp] at AP2
      have TW := Lib.hid (show ∀ w9, Frm (fun i => i = r2 ∨ own3 d2 g2 m2 i) w8 w9 → RingAt w9 r d k7 0 8 F.length S7 t7 ∧ DiskAt Try.prog w9 d g m n7 x7 ∧ Lies w9 w4.heap.size aa n F ∧ Lies w9 wo.heap.size am n F ∧ Below w.heap.size w w9 from fun w9 f9 => by
        have hT2 : ∀ i, i = r2 ∨ own3 d2 g2 m2 i → w1.heap.size ≤ i ∧ i < w4.heap.size ∧ (i < w2.heap.size ∨ i = r2) := by
          rintro i (e | e)
          · subst e; have := NW.out; exact ⟨by omega, by omega, .inr rfl⟩
          · have := LO2.out i e; have := LT2.out i e; have := NW.out; exact ⟨by omega, by omega, .inl (by omega)⟩
        have hO1 : ∀ i, own3 d g m i → ¬ (i = r2 ∨ own3 d2 g2 m2 i) := fun i h1 e => by have := LT1.out i h1; have := hT2 i e; omega
        refine ⟨(hR7.frame f8 id id).frame f9 (fun e => ?_) (fun e => ?_), (hE7.frame f8 id id id).frame f9 (hO1 _ (.inl rfl)) (hO1 _ (.inr (.inl rfl))) (hO1 _ (.inr (.inr rfl))), (hA7.frame f8 (fun _ _ => id)).frame f9 (fun i hi e => ?_), (hL7.frame f8 (fun _ _ => id)).frame f9 (fun i hi e => ?_), ?_⟩
        · have := hT2 r e; have := NW.out; omega
        · have := hT2 k7 e; have := NW.out
          rcases hkc with h | h
          · subst h; omega
          · omega
        · have h1 := HSA.out.lt hi; have := hT2 i e; omega
        · have h1 := HLM.out.lt hi; have := hT2 i e; have := NW.out; omega
        · have f79 := hBelow7.trans (f8.below (fun _ _ h => h.elim) (Nat.le_trans HBA6.out.size hs67))
          exact f79.trans (f9.below (fun i _ e => by have := hT2 i e; have := HB1.out.size; omega) f79.size))
      have HK7 := Lib.hid hK7
      have HKC := Lib.hid (show (k7 = k ∨ w6.heap.size ≤ k7) ∧ w6.heap.size ≤ w8.heap.size from ⟨hkc, Nat.le_trans hs67 f8.size⟩)
      have HW8 := Lib.hid hw8
      clear hR7 hk7 hkr hkc hE7 hK7 hF7 hT1 hL7 hA7 hQ7 hO2 hF7' hs67 hBelow7 f8 hP8 hrn2 hkn2 hFl eS hn7 AP hw8
      go_wp2_with fail
      rw [← HW8.out]
      refine AP2.out.mono ?_
      rintro e w9 ⟨rfl, k9, S9, t9, x9, n9, hR9, hk9, hkr, hkc, hE9, hn9, hK9, hF9⟩
      obtain ⟨a1, a2, a3, a4, a5⟩ := TW.out w9 hF9
      have TT := Lib.hid (show Two w9 w4.heap.size r d k7 g m n7 S7 t7 x7 r2 d2 k9 g2 m2 n9 S9 t9 x9 aa n F from ⟨a1, a2, hR9, hE9, a3⟩)
      have BB := Lib.hid a5
      have HK9 := Lib.hid hK9
      have HFL := Lib.hid a3.1
      obtain ⟨gm, cur, hgm, hopen, hcur⟩ := a4.open
      have RA := Lib.hid (show RaRel w9 gm n 5 (.int .i64 0) w9 from ra_start (fun h0 => (hopen h0).2.2) hcur)
      have HOP := Lib.hid (show 0 < n → am = some ⟨gm, 0, none⟩ from fun h0 => (hopen h0).1)
      have HGM := Lib.hid (show 0 < n → ¬ twoOwn r d k7 g m r2 d2 k9 g2 m2 aa gm from fun h0 => by
        have hl6 : gm < w6.heap.size := (HLM.out.lt (hopen h0).1).2
        have hnw := NW.out
        rintro (e | e | e | e | e | e | e)
        · omega
        · rcases HKC.out.1 with h | h <;> omega
        · have := LT1.out gm e; omega
        · omega
        · have := HKC.out.2
          rcases hkc with h | h <;> omega
        · have := LT2.out gm e; omega
        · have := (HSA.out.lt e).2
          omega)
      clear a1 a2 a3 a4 a5 hR9 hk9 hkr hkc hE9 hK9 hF9 hn9 TW AP2 hopen hcur HR4 HE4 HF4 HQ4 HK4 HR3 HK3 HE3 HF3 HD2 HE1 HD1
      go_wp2_with fail
      go_loopw [81] (fun u wr => RaRel w9 gm n 5 u wr) (fun u _ => n - (intOf u).toNat)
      case atStart => exact RA.out
      case round =>
        obtain ⟨wp, rfl⟩ : ∃ wp : World, wp = wr := ⟨_, rfl⟩
        obtain ⟨j, cur2, rfl, hj, hz, hrow, hF⟩ := hrel
        by_cases hjl : j < n
        · have hji : (j : Int) < (n : Int) := by omega
          obtain rfl := HOP.out (by omega)
          obtain ⟨z0, hc, hf, hst⟩ := ra_step hjl hz hrow hF
          have STP := Lib.hid hst
          clear hst hrow hF hz RA
          go_wp2_with fail
          exact ⟨STP.out _, by simp [intOf]; omega⟩
        · obtain rfl : j = n := by omega
          have hT9 := HGM.out
          have TT2 := Lib.hid (TT.out.frame hF (fun i hi => by obtain ⟨rfl, h0⟩ := hi; exact hT9 h0))
          have BB2 := Lib.hid (BB.out.trans (hF.below (fun i _ hi => by obtain ⟨rfl, h0⟩ := hi; have := NW.out; have := HB4.out.size; omega) BB.out.size))
          have RD := Lib.hid (read_keeps TT2.out.R (by rw [HFL.out]; omega) TT2.out.E HK7.out (by decide) 0 j (by rw [HFL.out]; omega) (by rw [HFL.out]; unfold thereN; split <;> omega))
          rw [List.drop_zero, show F.take j = F from List.take_of_length_le (by rw [HFL.out]; exact Nat.le_refl _)] at RD
          clear hz hrow hF RA hT9 HOP
          go_wp2_with fail
          refine RD.out.mono ?_
          rintro e w11 ⟨ko, cc, rfl, hrow, hko, hb⟩
          have TT3 := Lib.hid (TT2.out.below hb)
          have BB3 := Lib.hid (BB2.out.trans (hb.mono BB2.out.size))
          have RA := Lib.hid (show RaRel w11 ko j 5 (.int .i64 0) w11 from ra_start (fun _ => hrow) (ra_bvs HFL.out))
          have KO := Lib.hid (show wp.heap.size ≤ ko ∧ w.heap.size ≤ ko from ⟨hko, Nat.le_trans BB2.out.size hko⟩)
          have HT2 := Lib.hid (show ∀ i, twoOwn r d k7 g m r2 d2 k9 g2 m2 aa i → i < wp.heap.size from fun i hi => TT2.out.lt i hi)
          clear hrow hko hb RD
          go_wp2_with fail
          go_loopw [100] (fun u wr => RaRel w11 ko j 5 u wr) (fun u _ => j - (intOf u).toNat)
          case atStart => exact RA.out
          case round =>
            obtain ⟨wq, rfl⟩ : ∃ wq : World, wq = wr := ⟨_, rfl⟩
            obtain ⟨i, cur3, rfl, hi3, hz, hrow, hF⟩ := hrel
            by_cases hil : i < j
            · have hii : (i : Int) < (j : Int) := by omega
              obtain ⟨z0, hc, hf, hst⟩ := ra_step hil hz hrow hF
              have STP := Lib.hid hst
              clear hst hrow hF hz RA
              go_wp2_with fail
              exact ⟨STP.out _, by simp [intOf]; omega⟩
            · obtain rfl : i = j := by omega
              have TT4 := Lib.hid (TT3.out.frame hF (fun y hy hh => by obtain ⟨rfl, h0⟩ := hy; have := HT2.out y hh; have := KO.out; omega))
              have BB4 := Lib.hid (BB3.out.trans (hF.below (fun y _ hy => by obtain ⟨rfl, h0⟩ := hy; exact KO.out.2) BB3.out.size))
              have RD := Lib.hid (read_keeps TT4.out.R2 (by rw [HFL.out]; omega) TT4.out.E2 HK9.out (by decide) 0 i (by rw [HFL.out]; omega) (by rw [HFL.out]; unfold thereN; split <;> omega))
              rw [List.drop_zero, show F.take i = F from List.take_of_length_le (by rw [HFL.out]; exact Nat.le_refl _)] at RD
              clear hz hrow hF RA
              go_wp2_with fail
              refine RD.out.mono ?_
              rintro e w13 ⟨kb, cb, rfl, hrow, hko, hb⟩
              have TT5 := Lib.hid (TT4.out.below hb)
              have BB5 := Lib.hid (BB4.out.trans (hb.mono BB4.out.size))
              have RB := Lib.hid hrow
              have RD := Lib.hid (read_keeps TT5.out.R (by rw [HFL.out]; omega) TT5.out.E HK7.out (by decide) 0 i (by rw [HFL.out]; omega) (by rw [HFL.out]; unfold thereN; split <;> omega))
              rw [List.drop_zero, show F.take i = F from List.take_of_length_le (by rw [HFL.out]; exact Nat.le_refl _)] at RD
              clear hrow hko hb
              go_wp2_with fail
              refine RD.out.mono ?_
              rintro e w14 ⟨kc, c3, rfl, hrow, hko, hb⟩
              have TT6 := Lib.hid (TT5.out.below hb)
              have BB6 := Lib.hid (BB5.out.trans (hb.mono BB5.out.size))
              have hrb := (hb.block kb (lt_of_row RB.out)).trans RB.out
              have cB := (sl_row (n := i) (c := cb) hrb HFL.out).convert.1
              have cC := (sl_row (n := i) (c := c3) hrow HFL.out).convert.1
              have cA := (TT6.out.al.sl ca).convert.1
              have TA := Lib.hid (tail_any TT6.out.R)
              have TB := Lib.hid (tail_any TT6.out.R2)
              clear hrow hko hb hrb RD
              go_wp2_with fail
              refine TA.out.mono ?_
              rintro e w' ⟨rfl, rfl⟩
              go_wp2_with fail
              refine TB.out.mono ?_
              rintro e w' ⟨rfl, rfl⟩
              go_wp2_with fail
              go_ret
              exact ⟨by simp, BB6.out⟩
theorem rparts_any (ao : Option Addr) (c : Nat) (L : List (List UInt8)) (w : World) (hP : Parts w (.slice ao L.length c) L) :
    Calls Try.prog 5 #[.slice ao L.length c] w fun e w' => e = .returned (.bool true) ∧ Below w.heap.size w w' := by
  by_cases h : 20 < L.length
  · exact rparts_long ao c L w h
  · exact rparts_short ao c L w hP (by omega)
end Go.Proofs.Ytllnaocnojhlkaa.Dk
