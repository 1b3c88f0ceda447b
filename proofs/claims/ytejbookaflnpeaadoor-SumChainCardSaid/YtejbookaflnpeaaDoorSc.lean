/- The law SumChain: its walk. -/
import Derived.Test.YtejbookaflnpeaaDoorRg
import Derived.Test.YtejbookaflnpeaaDoorPa
import Derived.Test.YtejbookaflnpeaaDoorQc
import Derived.Deep.Cut
import Derived.Deep.RegionHeld3
namespace Go.Proofs.YtejbookaflnpeaaDoor
open Go Go.RowKit
set_option linter.unusedVariables false

theorem Tryd.infoStr : (Tryd.prog.info? 9).map (fun i => (i.zero, i.size, i.bytes)) = some (some (.string ⟨#[]⟩), 1, 16) := by kernel_rfl
def strs (T : List (List UInt8)) : List Value := T.map fun t => .string (str t)
theorem Sts.ofOwn {w : World} {base : Nat} {v : Value} {T : List (List UInt8)} (h : w.ownsRow base 9 1 v T.length (strs T)) : Sts w v T := by
  rcases h.2 with ⟨rfl, h0⟩ | ⟨g, cap, cur, rfl, hb, hg, hn, hm, hs, ht⟩
  · exact ⟨none, 0, by rw [h0], fun _ => List.length_eq_zero_iff.1 h0, by intro a e; cases e⟩
  · refine ⟨some ⟨g, 0, none⟩, cap, rfl, (by intro e; cases e), fun a ha j t hj => ?_⟩
    cases ha
    have hjl : j < T.length := (List.getElem?_eq_some_iff.1 hj).1
    rw [Addr.add_mid, Nat.zero_add, cell_of_row w g j _ _ _ hg]
    have h1 : (cur.toList.take (T.length * 1))[j]? = some (.string (str t)) := by rw [ht]; simp [strs, hj]
    rw [List.getElem?_take, if_pos (by omega)] at h1
    simpa using h1
theorem sumsTo_get (S K : List Nat) (first : List UInt8) (T : List (List UInt8)) {k : Nat} : ∀ n, k < n → ((sumsTo S K first T n).drop (32 * k)).take 32 = prevS S K first T (k + 1)
  | 0, h => by omega
  | n + 1, h => by
    have hl := sumsTo_length S K first T n
    have h2 : (prevS S K first T (k + 1)).length = 32 := shaL_length _ _ _
    have h3 : (prevS S K first T (n + 1)).length = 32 := shaL_length _ _ _
    show ((sumsTo S K first T n ++ prevS S K first T (n + 1)).drop (32 * k)).take 32 = _
    by_cases hk : k = n
    · subst hk
      rw [List.drop_left' hl]
      exact List.take_of_length_le (by omega)
    · rw [List.drop_append_of_le_length (by omega), List.take_append_of_le_length (by rw [List.length_drop]; omega)]
      exact sumsTo_get S K first T n (by omega)
/-- The sum at place k, off a row of sums. -/
theorem range_of_row {w : World} {g t k n : Nat} {cur : Array Value} {S K : List Nat} {first : List UInt8} {T : List (List UInt8)} (hg : w.heap[g]? = some (.cells cur t (0, 0))) (ht : cur.toList.take (n * 32) = bvs (sumsTo S K first T n)) (hk : k < n) :
    w.rangeAt g (k * 32) (bvs (prevS S K first T (k + 1))) := by
  intro j v hv
  have hjl : j < 32 := by
    have := (List.getElem?_eq_some_iff.1 hv).1
    rwa [bvs_length, show (prevS S K first T (k + 1)).length = 32 from shaL_length _ _ _] at this
  rw [cell_of_row w g (k * 32 + j) _ _ _ hg]
  have h1 : (cur.toList.take (n * 32))[k * 32 + j]? = some v := by
    rw [ht]
    rw [← sumsTo_get S K first T n hk] at hv
    simp only [bvs, List.getElem?_map, List.getElem?_take, List.getElem?_drop, hjl, if_true] at hv ⊢
    rw [Nat.mul_comm k 32]
    exact hv
  rw [List.getElem?_take, if_pos (by omega)] at h1
  simpa using h1
theorem own_base {w : World} {b b' : Nat} {e : TypeId} {size n : Nat} {v : Value} {xs : List Value} (h : w.ownsRow b e size v n xs) (hb : b' ≤ b) : w.ownsRow b' e size v n xs := by
  refine ⟨h.1, ?_⟩
  rcases h.2 with h0 | ⟨g, cap, cur, h1, h2, h3⟩
  · exact .inl h0
  · exact .inr ⟨g, cap, cur, h1, by omega, h3⟩
theorem guard_sum : Tryd.prog.eqGuardType Tryd.prog.depth 29 = false := by kernel_rfl
theorem exec_neq {o : Oper} {a : Act} {x y : Operand} {s : TypeId} (ho : o.op = .binOp .neq 29 x y s) (l : List UInt8) (hl : l.length = 32) (hx : a.eval x = .agg (bvs l).toArray) (hy : a.eval y = .agg (bvs l).toArray) (w : World) :
    (execOp a.eval o).run Tryd.prog w = .ok (.value (.bool false)) w := by
  have hg := guard_sum
  have hn := neq_sum l l hl hl w
  rw [decide_eq_true (rfl : l = l)] at hn
  unfold execOp
  simp only [ho, hx, hy]
  simp [eqGuard, Sem.run_bind, hg, hn]
def ScRel (w : World) (T : List (List UInt8)) (v u : Value) (wr : World) : Prop :=
  ∃ k : Nat, u = .int .i64 (k : Int) ∧ k ≤ T.length ∧ wr.ownsRow w.heap.size 9 1 v k (strs (T.take k)) ∧ (∀ j, j < k → (T.getD j []).length ≤ 100) ∧ Below w.heap.size w wr
def SdRel (w : World) (n : Nat) (u : Value) (wr : World) : Prop := ∃ k : Nat, u = .int .i64 (k : Int) ∧ k ≤ n ∧ Below w.heap.size w wr
set_option maxRecDepth 100000 in
set_option maxHeartbeats 1000000 in
theorem chl_long {w : World} {ao : Option Addr} {c : Nat} {first : List UInt8} {L : List (Value × List UInt8)} (ht : Tables w S0 K0) (hL : 8 < L.length) :
    Calls Tryd.prog 7 #[.agg (bvs first).toArray, .slice ao L.length c] w fun e w' => e = .returned (.bool true) ∧ Below w.heap.size w w' := by
  have hi : (8 : Int) < (L.length : Int) := by omega
  have hB := (Below.refl w.heap.size w).alloc (Nat.le_refl _) (.cells (bvs first).toArray 29)
  have HK := Lib.hid (known_any (ht.below hB (Nat.le_refl _)))
  have HB := Lib.hid hB
  clear ht hB
  go_enter Tryd.func7, Tryd.ntmps7
  go_wp2_with fail
  refine HK.out.mono ?_
  rintro e w0 ⟨rfl, hB0⟩
  have HB0 := Lib.hid (HB.out.trans (hB0.mono HB.out.size))
  clear hB0
  go_wp2_with fail
  go_ret
  exact ⟨rfl, HB0.out⟩
set_option maxRecDepth 100000 in
set_option maxHeartbeats 3000000 in
theorem chl_short {w : World} {v : Value} {first : List UInt8} {L : List (Value × List UInt8)} (hf : first.length = 32) (h : Pt w v L) (ht : Tables w S0 K0) (hL : L.length ≤ 8) :
    Calls Tryd.prog 7 #[.agg (bvs first).toArray, v] w fun e w' => e = .returned (.bool true) ∧ Below w.heap.size w w' := by
  obtain ⟨iu, hiu, hu0, hu1, hu2⟩ := info_parts Tryd.infoStr
  have hi : (L.length : Int) ≤ 8 := by omega
  obtain ⟨ao, c, rfl, hno, _⟩ := id h
  obtain ⟨n, hn⟩ : ∃ n, n = L.length := ⟨_, rfl⟩
  obtain ⟨T, hT⟩ : ∃ T, T = L.map (·.2) := ⟨_, rfl⟩
  have hTn : T.length = n := by rw [hT, List.length_map, hn]
  obtain ⟨w1, hw1⟩ : ∃ w1, w1 = w.alloc (.cells (bvs first).toArray 29) := ⟨_, rfl⟩
  have B1 : Below w.heap.size w w1 := by rw [hw1]; exact (Below.refl w.heap.size w).alloc (Nat.le_refl _) _
  have n1 : w1.heap[w.heap.size]? = some (.cells (bvs first).toArray 29 (0, 0)) := by rw [hw1]; exact heap_alloc_new w _
  have z1 : w1.heap.size = w.heap.size + 1 := by rw [hw1]; simp
  have ht1 := ht.below B1 (Nat.le_refl _)
  have h1 := h.below B1 (Nat.le_refl _)
  have HK := Lib.hid (known_any ht1)
  have HT1 := Lib.hid ht1
  have HP1 := Lib.hid h1
  have HF := Lib.hid hf
  have HNO := Lib.hid hno
  have HTN := Lib.hid hTn
  have HTT := Lib.hid hT
  have N1 := Lib.hid n1
  have Z1 := Lib.hid z1
  have HB1 := Lib.hid B1
  have HW1 := Lib.hid hw1
  have HLN := Lib.hid hn
  rw [← hn] at hi hL ⊢
  clear ht h ht1 h1 hno hTn hT n1 z1 B1 hf hw1 hn
  go_enter Tryd.func7, Tryd.ntmps7
  go_wp2_with fail
  rw [← HW1.out]
  refine HK.out.mono ?_
  rintro e w0 ⟨rfl, hB0⟩
  have NF := Lib.hid ((hB0.block w.heap.size (by have := Z1.out; omega)).trans N1.out)
  have HT := Lib.hid (HT1.out.below hB0 (Nat.le_refl _))
  have HP := Lib.hid (HP1.out.below hB0 (Nat.le_refl _))
  have HB0 := Lib.hid (HB1.out.trans (hB0.mono HB1.out.size))
  have hz0 := hB0.size
  have hz1 := Z1.out
  have hgF : w.heap.size < w0.heap.size := by omega
  clear HK HT1 HP1 N1 Z1 HB1 HW1 hB0 hz0 hz1
  clear w1
  go_wp2_with fail
  go_loopw [5, 7, 19] (fun v _ u wr => ScRel w0 T v u wr) (fun _ _ u _ => n - (intOf u).toNat)
  case atStart => exact ⟨0, rfl, Nat.zero_le _, World.ownsRow_nil _ _ _ _, fun j h0 => by omega, Below.refl _ _⟩
  case round =>
    obtain ⟨wr0, rfl⟩ : ∃ wr0 : World, wr0 = wr := ⟨_, rfl⟩
    obtain ⟨k, rfl, hk, own, hsm, hBr⟩ := hrel
    rw [HTN.out] at hk
    by_cases hkl : k < n
    · as_aux_lemma =>
        obtain ⟨ad, rfl⟩ : ∃ ad, ao = some ad := by
          cases ao with
          | none => have := HNO.out rfl; have := HLN.out; omega
          | some ad => exact ⟨ad, rfl⟩
        obtain ⟨ao', c', hv', _, hs'⟩ := HP.out
        obtain ⟨rfl, rfl⟩ : some ad = ao' ∧ c = c' := by simpa using hv'
        have hkL : k < L.length := by rw [← HLN.out]; exact hkl
        obtain ⟨p, hp⟩ : ∃ p, p = L[k] := ⟨_, rfl⟩
        obtain ⟨cell0, src0⟩ := hs' ad rfl k p (by rw [hp]; exact List.getElem?_eq_getElem hkL)
        have cell := cell_below hBr (Nat.le_refl _) cell0
        have src := src0.below hBr (Nat.le_refl _)
        have hTk : T.getD k [] = p.2 := by rw [HTT.out, hp]; simp [List.getD, hkL]
        have htk : strs (T.take (k + 1)) = strs (T.take k) ++ [.string (str p.2)] := by
          rw [List.take_add_one, strs, List.map_append, ← hTk]
          have : T[k]? = some (T.getD k []) := by
            have hkT : k < T.length := by rw [HTN.out]; exact hkl
            simp [List.getD, hkT]
          rw [this]
          rfl
        obtain ⟨v1, xs⟩ := p
        dsimp only at hTk htk cell src
        obtain ⟨a1, c1, rfl, hc1, hno1, hs1⟩ := id src
        have q0 : (0 : Int) ≤ (k : Int) := by omega
        have q1 : (k : Int) < (n : Int) := by omega
        clear cell0 src0 hs' hv' hs1 hno1 hp hc1
        by_cases hx : 100 < xs.length
        · have hxI : (100 : Int) < (xs.length : Int) := by omega
          have HBR := Lib.hid hBr
          clear own hBr hsm htk hTk src
          go_wp2_with fail
          go_ret
          exact ⟨rfl, HB0.out.trans (HBR.out.mono HB0.out.size)⟩
        · have hxI : ¬ (100 : Int) < (xs.length : Int) := by omega
          have cv := src.str
          have hsm' : ∀ j, j < k + 1 → (T.getD j []).length ≤ 100 := by
            intro j hj
            by_cases hjk : j = k
            · rw [hjk, hTk]; omega
            · exact hsm j (by omega)
          have HSM := Lib.hid hsm'
          have HTK := Lib.hid htk
          have OWN := Lib.hid own
          have HBR := Lib.hid hBr
          have hnext : ∀ v' w', Grew (wr0.alloc (.cells #[.string (str xs)] 9)) w' w0.heap.size 9 1 u5 v' (k + 1) (strs (T.take k) ++ [.string (str xs)]) → ScRel w0 T v' (.int .i64 ((k : Int) + 1)) w' := by
            rintro v' w' ⟨h1, h2, h3⟩
            exact ⟨k + 1, by go_num, by rw [HTN.out]; omega, by rw [HTK.out]; exact h1, HSM.out, (HBR.out.alloc HBR.out.size _).grown h2 (by have := HBR.out.size; simp; omega) (fun g e => (OWN.out.lt g e).1)⟩
          have HNX := Lib.hid hnext
          have zb := HBR.out.size
          clear own hBr hsm hsm' htk hTk src hnext
          go_wp2_with (at_builtin; refine wpList_append_own_src _ rfl (.tmp 26) (.tmp 29) 41 41 rfl w0.heap.size 9 iu (.string ⟨#[]⟩) 1 16 Tryd.underlying41 hiu hu0 hu1 hu2 rfl _ k (strs (T.take k)) rfl (OWN.out.alloc _) _ 1 [.string (str xs)] rfl (src_one Tryd.underlying41 wr0 (.string (str xs)) rfl) ?b1 ?b2 ?b3 ?next)
          case b1 => unfold maxLen; omega
          case b2 => omega
          case b3 => omega
          case next =>
            intro v' w' hG
            have N1 := Lib.hid (HNX.out v' w' hG)
            clear HNX hG OWN HBR
            go_wp2_with fail
            exact ⟨N1.out, by simp [intOf]; omega⟩
    · obtain rfl : k = n := by omega
      have htk : T.take k = T := List.take_of_length_le (by rw [HTN.out]; omega)
      rw [htk, ← HTN.out] at own
      obtain ⟨a5, c5, rfl⟩ := own_sl own
      have hst := Sts.ofOwn own
      have hTl : ∀ t ∈ T, t.length ≤ 100 := by
        intro t ht
        obtain ⟨j, hj, rfl⟩ := List.mem_iff_getElem.1 ht
        have := hsm j (by rw [← HTN.out]; exact hj)
        simpa [List.getD, hj] using this
      have hLl : ∀ p ∈ L, p.2.length ≤ 100 := fun p hp => hTl _ (by rw [HTT.out]; exact List.mem_map_of_mem hp)
      have hB0 := HB0.out.trans (hBr.mono HB0.out.size)
      have nf := (hBr.block w.heap.size hgF).trans NF.out
      have hP := HP.out.below hBr (Nat.le_refl _)
      have hTb := HT.out.below hBr (Nat.le_refl _)
      have chA : ∀ W, Below wr0.heap.size wr0 W → Calls Tryd.prog 22 #[.agg (bvs first).toArray, .slice ao k c] W fun e w' => ∃ g, e = .returned (.slice (some ⟨g, 0, none⟩) k k) ∧ W.heap.size ≤ g ∧ w'.heap[g]? = some (.cells (bvs (sumsTo S0 K0 first T k)).toArray 29 (0, 0)) ∧ Below W.heap.size W w' := by
        intro W hW
        have o := chain_any HF.out (hP.below hW (Nat.le_refl _)) (hTb.below hW (Nat.le_refl _)) (by rw [← HLN.out]; omega) (fun p hp => by have := hLl p hp; omega)
        rw [← HLN.out, ← HTT.out] at o
        exact o
      have rcA : ∀ W, Below wr0.heap.size wr0 W → Calls Tryd.prog 23 #[.agg (bvs first).toArray, .slice a5 k c5] W fun e w' => ∃ u, e = .returned u ∧ w'.ownsRow (W.heap.size + 1) 28 32 u k (bvs (sumsTo S0 K0 first T k)) ∧ Below W.heap.size W w' := by
        intro W hW
        have o := refChain_any HF.out (hst.below hW (Nat.le_refl _)) (by rw [HTN.out]; omega) (fun t ht => by have := hTl t ht; omega)
        rw [HTN.out] at o
        exact o
      rw [HTN.out]
      have kp : ∀ W, Below wr0.heap.size wr0 W → Below wr0.heap.size wr0 W ∧ W.rangeAt w.heap.size 0 (bvs first) := fun W hW =>
        ⟨hW, fun j v hv => by
          rw [Nat.zero_add, cell_of_row W _ j _ _ _ ((hW.block _ (by have := hBr.size; omega)).trans nf)]
          simpa using hv⟩
      have KP := Lib.hid kp
      have CHA := Lib.hid chA
      have RCA := Lib.hid rcA
      have R0 := Lib.hid (Below.refl wr0.heap.size wr0)
      have HB0' := Lib.hid hB0
      have NFR := Lib.hid nf
      have HPR := Lib.hid hP
      have HTR := Lib.hid hTb
      have HLL := Lib.hid hLl
      have hz := hBr.size
      have hgR : w.heap.size < wr0.heap.size := by omega
      clear kp chA rcA hB0 nf hP hTb hst own htk hsm hBr hTl hLl NF HT HP HB0 hgF
      go_wp2_with fail
      go_cut [8, 9] from 32 (fun a b wx => ∃ g, a = .slice (some ⟨g, 0, none⟩) k k ∧ wx.heap[g]? = some (.cells (bvs (sumsTo S0 K0 first T k)).toArray 29 (0, 0)) ∧ wx.ownsRow wr0.heap.size 28 32 b k (bvs (sumsTo S0 K0 first T k)) ∧ Below wr0.heap.size wr0 wx)
      case first =>
        as_aux_lemma =>
          have hu := Tryd.underlying29
          have hsi : (Tryd.prog.info? 29).map (·.size) = some (bvs first).length := by rw [bvs_length, HF.out]; kernel_rfl
          refine wp_region_held_drew (S := fun w' => Below wr0.heap.size wr0 w' ∧ w'.rangeAt w.heap.size 0 (bvs first)) (by kernel_rfl) (KP.out _ R0.out.drew) ?_
          intro hSw
          refine wpAnyH_take (i := 0) (v := .agg (bvs first).toArray) rfl (by kernel_rfl) (by kernel_rfl) (by kernel_rfl) (fun _ _ _ h => h) (yieldsIf_load_mid rfl _ _ rfl _ _ rfl _ _ (fun _ h => h.2) hu rfl hsi) hSw ?_
          refine wpAnyH_take (i := 1) (v := .slice ao k c) rfl (by kernel_rfl) (by kernel_rfl) (by kernel_rfl) (fun _ _ _ h => h) (.inl ⟨rfl, fun _ _ => rfl⟩) hSw ?_
          refine wpAnyH_take (i := 3) (v := .agg (bvs first).toArray) rfl (by kernel_rfl) (by kernel_rfl) (by kernel_rfl) (fun _ _ _ h => h) (yieldsIf_load_mid rfl _ _ rfl _ _ rfl _ _ (fun _ h => h.2) hu rfl hsi) hSw ?_
          refine wpAnyH_take (i := 4) (v := .slice a5 k c5) rfl (by kernel_rfl) (by kernel_rfl) (by kernel_rfl) (fun _ _ _ h => h) (.inl ⟨rfl, fun _ _ => rfl⟩) hSw ?_
          simp only [Act.put, List.setIfInBounds_toArray, List.set_cons_zero, List.set_cons_succ, List.getElem_toArray, List.getElem_cons_zero, List.getElem_cons_succ]
          refine wpAnyH_all (rs := [2]) (by kernel_rfl) (by simp) ?_
          intro i hi
          obtain rfl : i = 2 := by simpa using hi
          refine wpOp_enter (f := 22) (xs := #[.tmp 32, .tmp 33]) #[.agg (bvs first).toArray, .slice ao k c] rfl rfl rfl Tryd.func22 (by kernel_rfl) (by kernel_rfl) (by simp [Act.eval]) ?_
          refine (CHA.out wr0.drew R0.out.drew).mono ?_
          rintro e wA ⟨g, rfl, gA, cA, hA⟩
          have bA := R0.out.drew.trans (hA.mono R0.out.drew.size)
          refine ⟨_, rfl, KP.out _ bA, ?_⟩
          simp only [Act.put, List.setIfInBounds_toArray, List.set_cons_zero, List.set_cons_succ, List.getElem_toArray, List.getElem_cons_zero, List.getElem_cons_succ]
          refine wpAnyH_all (rs := [5]) (by kernel_rfl) (by simp) ?_
          intro i hi
          obtain rfl : i = 5 := by simpa using hi
          refine wpOp_enter (f := 23) (xs := #[.tmp 35, .tmp 36]) #[.agg (bvs first).toArray, .slice a5 k c5] rfl rfl rfl Tryd.func23 (by kernel_rfl) (by kernel_rfl) (by simp [Act.eval]) ?_
          refine (RCA.out wA bA).mono ?_
          rintro e wE ⟨u, rfl, oE0, hE⟩
          have bE := bA.trans (hE.mono bA.size)
          have oE := own_base oE0 (Nat.le_succ_of_le bA.size)
          have cE := (hE.block g (Array.getElem?_eq_some_iff.1 cA).1).trans cA
          refine ⟨_, rfl, KP.out _ bE, ?_⟩
          simp only [Act.put, List.setIfInBounds_toArray, List.set_cons_zero, List.set_cons_succ, List.getElem_toArray, List.getElem_cons_zero, List.getElem_cons_succ]
          refine wpAnyH_take (i := 6) (v := .slice (some ⟨g, 0, none⟩) k k) rfl (by kernel_rfl) (by kernel_rfl) (by kernel_rfl) (fun _ _ _ h => h) (.inl ⟨rfl, fun _ _ => rfl⟩) (KP.out _ bE) ?_
          simp only [Act.put, List.setIfInBounds_toArray, List.set_cons_zero, List.set_cons_succ, List.getElem_toArray, List.getElem_cons_zero, List.getElem_cons_succ]
          refine wpAnyH_take (i := 7) (v := u) rfl (by kernel_rfl) (by kernel_rfl) (by kernel_rfl) (fun _ _ _ h => h) (.inl ⟨rfl, fun _ _ => rfl⟩) (KP.out _ bE) ?_
          simp only [Act.put, List.setIfInBounds_toArray, List.set_cons_zero, List.set_cons_succ, List.getElem_toArray, List.getElem_cons_zero, List.getElem_cons_succ]
          refine wpAnyH_done (by kernel_rfl) ?_ _
          go_wp2_with fail
          go_meet
          case rel => exact ⟨_, rfl, cE, oE, bE⟩
      case rest =>
        obtain ⟨g, rfl, cE, oE, bE⟩ := hcut
        obtain ⟨a9, c9, rfl⟩ := own_sl oE
        have HBC := Lib.hid (HB0'.out.trans (bE.mono HB0'.out.size))
        have NFC := Lib.hid ((bE.block _ hgR).trans NFR.out)
        have HPC := Lib.hid (HPR.out.below bE (Nat.le_refl _))
        have HTC := Lib.hid (HTR.out.below bE (Nat.le_refl _))
        have hgC : w.heap.size < wc.heap.size := by have := bE.size; omega
        have CE := Lib.hid cE
        have OE := Lib.hid oE
        have hgl : g < wc.heap.size := (Array.getElem?_eq_some_iff.1 cE).1
        clear cE oE bE HB0' NFR HPR HTR KP CHA RCA R0 hgR hz
        go_wp2_with fail
        go_loopw [10, 11, 45] (fun _ _ u wr => SdRel wc k u wr) (fun _ _ u _ => k - (intOf u).toNat)
        case atStart => exact ⟨0, rfl, Nat.zero_le _, Below.refl _ _⟩
        case round =>
          obtain ⟨ws, rfl⟩ : ∃ ws : World, ws = wr := ⟨_, rfl⟩
          obtain ⟨j, rfl, hj, hBs⟩ := hrel
          by_cases hjk : j < k
          · as_aux_lemma =>
              obtain ⟨g9, rfl, hg9, r2⟩ : ∃ g9, a9 = some ⟨g9, 0, none⟩ ∧ g9 < wc.heap.size ∧ ∀ W, Below wc.heap.size wc W → W.rangeAt g9 (j * 32) (bvs (prevS S0 K0 first T (j + 1))) := by
                rcases OE.out.2 with ⟨_, h0⟩ | ⟨g9, cap, cur, hv9, hb9, hg9, hn9, hm9, hs9, ht9⟩
                · omega
                · have h9 : a9 = some ⟨g9, 0, none⟩ := by simp at hv9; exact hv9.1
                  have hl9 := (Array.getElem?_eq_some_iff.1 hg9).1
                  exact ⟨g9, h9, hl9, fun W hW => range_of_row ((hW.block _ hl9).trans hg9) ht9 hjk⟩
              have r1 : ∀ W, Below wc.heap.size wc W → W.rangeAt g (j * 32) (bvs (prevS S0 K0 first T (j + 1))) := fun W hW =>
                range_of_row (n := k) ((hW.block _ hgl).trans CE.out) (by rw [List.toList_toArray, List.take_of_length_le (by rw [bvs_length, sumsTo_length]; omega)]) hjk
              have r0 : ∀ i, j = i + 1 → ∀ W, Below wc.heap.size wc W → W.rangeAt g (i * 32) (bvs (prevS S0 K0 first T j)) := fun i hi W hW => by
                rw [hi]
                exact range_of_row (n := k) ((hW.block _ hgl).trans CE.out) (by rw [List.toList_toArray, List.take_of_length_le (by rw [bvs_length, sumsTo_length]; omega)]) (by omega)
              obtain ⟨ad, rfl⟩ : ∃ ad, ao = some ad := by
                cases ao with
                | none => have := HNO.out rfl; have := HLN.out; omega
                | some ad => exact ⟨ad, rfl⟩
              obtain ⟨ao', c', hv', _, hs'⟩ := HPC.out
              obtain ⟨rfl, rfl⟩ : some ad = ao' ∧ c = c' := by simpa using hv'
              have hjL : j < L.length := by rw [← HLN.out]; exact hjk
              obtain ⟨p, hp⟩ : ∃ p, p = L[j] := ⟨_, rfl⟩
              obtain ⟨cell0, src0⟩ := hs' ad rfl j p (by rw [hp]; exact List.getElem?_eq_getElem hjL)
              have hTj : T.getD j [] = p.2 := by rw [HTT.out, hp]; simp [List.getD, hjL]
              have hpn := HLL.out p (by rw [hp]; exact List.getElem_mem _)
              have hps : prevS S0 K0 first T (j + 1) = shaL S0 K0 (prevS S0 K0 first T j ++ p.2) := by rw [prevS, hTj]
              have hl0 := prevS_length S0 K0 first T HF.out j
              have hl1 := prevS_length S0 K0 first T HF.out (j + 1)
              have hf0 : j = 0 → prevS S0 K0 first T j = first := fun h => by rw [h]; rfl
              obtain ⟨v1, xs⟩ := p
              dsimp only at hTj cell0 src0 hpn hps
              generalize prevS S0 K0 first T (j + 1) = p1 at *
              generalize prevS S0 K0 first T j = p0 at *
              have lkA : ∀ W, Below wc.heap.size wc W → Calls Tryd.prog 24 #[.agg (bvs p0).toArray, v1] W fun e w' => e = .returned (.agg (bvs p1).toArray) ∧ Below W.heap.size W w' := fun W hW => by
                have o := link_any hl0 (src0.below hW (Nat.le_refl _)) (HTC.out.below hW (Nat.le_refl _)) (by omega)
                rwa [← hps] at o
              have cellA : ∀ W, Below wc.heap.size wc W → W.cell? (ad.add j) = some v1 := fun W hW => cell_below hW (Nat.le_refl _) cell0
              have b1 := bvs_length p1
              rw [hl1] at b1
              have b0 := bvs_length p0
              rw [hl0] at b0
              have ne1 : ∀ W, (binOp .neq 29 (.agg (bvs p1).toArray) (.agg (bvs p1).toArray)).run Tryd.prog W = .ok (.bool false) W := fun W => by
                rw [neq_sum p1 p1 hl1 hl1]; simp
              have NE1 := Lib.hid ne1
              have LKA := Lib.hid lkA
              have CELLA := Lib.hid cellA
              have R0 := Lib.hid r0
              have R1 := Lib.hid r1
              have R2 := Lib.hid r2
              have HBS := Lib.hid hBs
              have HF0 := Lib.hid hf0
              have B1 := Lib.hid b1
              have B0 := Lib.hid b0
              have hjI : (j : Int) < (k : Int) := by omega
              clear r0 r1 r2 lkA cellA hBs hf0 hps hTj hp src0 cell0 hs' hv' hl0 hl1 b0 b1 hpn
              go_wp2_with fail
              have hu := Tryd.underlying29
              have hu2' := Tryd.underlying28
              have hsi : (Tryd.prog.info? 29).map (·.size) = some (bvs p1).length := by rw [B1.out]; kernel_rfl
              have hsi2 : (Tryd.prog.info? 28).map (·.size) = some (bvs p1).length := by rw [B1.out]; kernel_rfl
              refine wp_region_quiet_in (fun w' => Below wc.heap.size wc w' ∧ w'.rangeAt g (j * 32) (bvs p1) ∧ w'.rangeAt g9 (j * 32) (bvs p1) ∧ w' = ws.drew) (by kernel_rfl) (by kernel_rfl) ⟨HBS.out.drew, R1.out _ HBS.out.drew, R2.out _ HBS.out.drew, rfl⟩ ?_
              (refine wpQuiet_run (v := .slice (some ⟨g, 0, none⟩) k k) rfl (fun w hC => by rfl) ?_; simp only [Act.put, List.setIfInBounds_toArray, List.set_cons_zero, List.set_cons_succ, List.getElem_toArray, List.getElem_cons_zero, List.getElem_cons_succ])
              (refine wpQuiet_run (v := .int .i64 (j : Int)) rfl (fun w hC => by rfl) ?_; simp only [Act.put, List.setIfInBounds_toArray, List.set_cons_zero, List.set_cons_succ, List.getElem_toArray, List.getElem_cons_zero, List.getElem_cons_succ])
              (refine wpQuiet_run (v := .pointer (some ⟨g, j * 32, none⟩)) rfl (fun w hC => by go_simp) ?_; simp only [Act.put, List.setIfInBounds_toArray, List.set_cons_zero, List.set_cons_succ, List.getElem_toArray, List.getElem_cons_zero, List.getElem_cons_succ])
              refine wpQuiet_load_mid rfl _ _ rfl g (j * 32) rfl (bvs p1) _ (fun _ h => h.2.1) hu rfl hsi ?_
              simp only [Act.put, List.setIfInBounds_toArray, List.set_cons_zero, List.set_cons_succ, List.getElem_toArray, List.getElem_cons_zero, List.getElem_cons_succ]
              (refine wpQuiet_run (v := .slice (some ⟨g9, 0, none⟩) k c9) rfl (fun w hC => by rfl) ?_; simp only [Act.put, List.setIfInBounds_toArray, List.set_cons_zero, List.set_cons_succ, List.getElem_toArray, List.getElem_cons_zero, List.getElem_cons_succ])
              (refine wpQuiet_run (v := .int .i64 (j : Int)) rfl (fun w hC => by rfl) ?_; simp only [Act.put, List.setIfInBounds_toArray, List.set_cons_zero, List.set_cons_succ, List.getElem_toArray, List.getElem_cons_zero, List.getElem_cons_succ])
              (refine wpQuiet_run (v := .pointer (some ⟨g9, j * 32, none⟩)) rfl (fun w hC => by go_simp) ?_; simp only [Act.put, List.setIfInBounds_toArray, List.set_cons_zero, List.set_cons_succ, List.getElem_toArray, List.getElem_cons_zero, List.getElem_cons_succ])
              refine wpQuiet_load_mid rfl _ _ rfl g9 (j * 32) rfl (bvs p1) _ (fun _ h => h.2.2.1) hu2' rfl hsi2 ?_
              simp only [Act.put, List.setIfInBounds_toArray, List.set_cons_zero, List.set_cons_succ, List.getElem_toArray, List.getElem_cons_zero, List.getElem_cons_succ]
              (refine wpQuiet_run (v := .bool false) rfl (fun w hC => by exact exec_neq rfl p1 (by rw [← bvs_length]; exact B1.out) rfl rfl w) ?_; simp only [Act.put, List.setIfInBounds_toArray, List.set_cons_zero, List.set_cons_succ, List.getElem_toArray, List.getElem_cons_zero, List.getElem_cons_succ])
              refine wpQuiet_nil ?_
              rintro _ ⟨_, _, _, rfl⟩
              obtain ⟨wd, hwd⟩ : ∃ wd, wd = ws.drew := ⟨_, rfl⟩
              rw [← hwd]
              have HBD := Lib.hid (show Below wc.heap.size wc wd by rw [hwd]; exact HBS.out.drew)
              clear hwd HBS
              have NFD := Lib.hid ((HBD.out.block _ hgC).trans NFC.out)
              have szF := Lib.hid (show (Tryd.prog.info? 29).map (·.size) = some (bvs first).toArray.size by rw [List.size_toArray, bvs_length, HF.out]; kernel_rfl)
              have soF := Lib.hid (show Z32.toArray.size = (bvs first).toArray.size by rw [List.size_toArray, List.size_toArray, bvs_length, HF.out]; rfl)
              have s1F := Lib.hid (show (bvs first).toArray.all (·.oneCell') = true from all_oneCell_toArray (bvs_one _))
              have sz0 := Lib.hid (show (Tryd.prog.info? 29).map (·.size) = some (bvs p0).toArray.size by rw [List.size_toArray, B0.out]; kernel_rfl)
              have so0 := Lib.hid (show (bvs first).toArray.size = (bvs p0).toArray.size by rw [List.size_toArray, List.size_toArray, B0.out, bvs_length, HF.out])
              have s10 := Lib.hid (show (bvs p0).toArray.all (·.oneCell') = true from all_oneCell_toArray (bvs_one _))
              have hsi0 : (Tryd.prog.info? 29).map (·.size) = some (bvs p0).length := by rw [B0.out]; kernel_rfl
              obtain ⟨wf, hwf⟩ : ∃ wf, wf = (wd.alloc (.cells Z32.toArray 29)).setRow wd.heap.size (bvs first).toArray := ⟨_, rfl⟩
              have nbF := Lib.hid (heap_alloc_new wd (.cells Z32.toArray 29))
              have gf := setRow_heap _ wd.heap.size _ (bvs first).toArray 29 (0, 0) nbF.out
              rw [← hwf] at gf
              have HBF := Lib.hid (show Below wc.heap.size wc wf by rw [hwf]; exact below_setRow (HBD.out.alloc HBD.out.size _) HBD.out.size _)
              have HWF := Lib.hid hwf
              have GF := Lib.hid gf
              clear gf hwf
              by_cases hj0 : j = 0
              · as_aux_lemma =>
                  have hjn : ¬ (0 : Int) < (j : Int) := by omega
                  have hp0 := HF0.out hj0
                  clear hj0
                  go_wp2_with (first
                    | (refine wpList_load_row rfl 29 (.tmp 2) rfl w.heap.size rfl 29 _ (0, 0) _ NFD.out Tryd.underlying29 rfl szF.out ?_)
                    | (rw [← Z32_eq]; refine wpList_store_all rfl 29 (.tmp 11) (.tmp 57) rfl wd.heap.size 29 Z32.toArray _ rfl rfl nbF.out szF.out soF.out s1F.out ?_; rw [← HWF.out]))
                  have HGN := Lib.hid (show wf.heap[wd.heap.size]? = some (.cells (bvs p0).toArray 29 (0, 0)) by rw [hp0]; exact GF.out)
                  obtain ⟨wn, hwn⟩ : ∃ wn, wn = wf := ⟨_, rfl⟩
                  rw [← hwn] at HGN ⊢
                  have HBN := Lib.hid (show Below wc.heap.size wc wn by rw [hwn]; exact HBF.out)
                  clear hwn hp0
                  have KN := Lib.hid (fun W (hW : Below wn.heap.size wn W) => HBN.out.trans (hW.mono HBN.out.size))
                  have RN := Lib.hid (fun W (hW : Below wn.heap.size wn W) => (show W.rangeAt wd.heap.size 0 (bvs p0) from fun q v hv => by
                    rw [Nat.zero_add, cell_of_row W _ q _ _ _ ((hW.block _ (Array.getElem?_eq_some_iff.1 HGN.out).1).trans HGN.out)]
                    simpa using hv))
                  refine wp_region_quiet_in (fun w' => Below wn.heap.size wn w') (by kernel_rfl) (by kernel_rfl) (Below.refl wn.heap.size wn).drew ?_
                  refine wpQuiet_load_mid rfl _ _ rfl wd.heap.size 0 rfl (bvs p0) _ RN.out hu rfl hsi0 ?_
                  simp only [Act.put, List.setIfInBounds_toArray, List.set_cons_zero, List.set_cons_succ, List.getElem_toArray, List.getElem_cons_zero, List.getElem_cons_succ]
                  (refine wpQuiet_run (v := .slice (some ad) k c) rfl (fun w hC => by rfl) ?_; simp only [Act.put, List.setIfInBounds_toArray, List.set_cons_zero, List.set_cons_succ, List.getElem_toArray, List.getElem_cons_zero, List.getElem_cons_succ])
                  (refine wpQuiet_run (v := .int .i64 (j : Int)) rfl (fun w hC => by rfl) ?_; simp only [Act.put, List.setIfInBounds_toArray, List.set_cons_zero, List.set_cons_succ, List.getElem_toArray, List.getElem_cons_zero, List.getElem_cons_succ])
                  (refine wpQuiet_run (v := .pointer (some (ad.add j))) rfl (fun w hC => by go_simp) ?_; simp only [Act.put, List.setIfInBounds_toArray, List.set_cons_zero, List.set_cons_succ, List.getElem_toArray, List.getElem_cons_zero, List.getElem_cons_succ])
                  (refine wpQuiet_run (v := v1) rfl (fun w hC => by have hcl := CELLA.out w (KN.out w hC); go_simp) ?_; simp only [Act.put, List.setIfInBounds_toArray, List.set_cons_zero, List.set_cons_succ, List.getElem_toArray, List.getElem_cons_zero, List.getElem_cons_succ])
                  refine wpQuiet_call (f := 24) (xs := #[.tmp 65, .tmp 69]) #[.agg (bvs p0).toArray, v1] (.agg (bvs p1).toArray) rfl rfl Tryd.func24 (by kernel_rfl) (by kernel_rfl) (by simp [Act.eval]) (fun W hW => (LKA.out W (KN.out W hW)).mono fun _ _ h' => ⟨h'.1, hW.trans (h'.2.mono hW.size)⟩) ?_
                  simp only [Act.put, List.setIfInBounds_toArray, List.set_cons_zero, List.set_cons_succ, List.getElem_toArray, List.getElem_cons_zero, List.getElem_cons_succ]
                  (refine wpQuiet_run (v := .slice (some ⟨g, 0, none⟩) k k) rfl (fun w hC => by rfl) ?_; simp only [Act.put, List.setIfInBounds_toArray, List.set_cons_zero, List.set_cons_succ, List.getElem_toArray, List.getElem_cons_zero, List.getElem_cons_succ])
                  (refine wpQuiet_run (v := .int .i64 (j : Int)) rfl (fun w hC => by rfl) ?_; simp only [Act.put, List.setIfInBounds_toArray, List.set_cons_zero, List.set_cons_succ, List.getElem_toArray, List.getElem_cons_zero, List.getElem_cons_succ])
                  (refine wpQuiet_run (v := .pointer (some ⟨g, j * 32, none⟩)) rfl (fun w hC => by go_simp) ?_; simp only [Act.put, List.setIfInBounds_toArray, List.set_cons_zero, List.set_cons_succ, List.getElem_toArray, List.getElem_cons_zero, List.getElem_cons_succ])
                  refine wpQuiet_load_mid rfl _ _ rfl g (j * 32) rfl (bvs p1) _ (fun W hW => R1.out W (KN.out W hW)) hu rfl hsi ?_
                  simp only [Act.put, List.setIfInBounds_toArray, List.set_cons_zero, List.set_cons_succ, List.getElem_toArray, List.getElem_cons_zero, List.getElem_cons_succ]
                  (refine wpQuiet_run (v := .bool false) rfl (fun w hC => by exact exec_neq rfl p1 (by rw [← bvs_length]; exact B1.out) rfl rfl w) ?_; simp only [Act.put, List.setIfInBounds_toArray, List.set_cons_zero, List.set_cons_succ, List.getElem_toArray, List.getElem_cons_zero, List.getElem_cons_succ])
                  refine wpQuiet_nil ?_
                  intro wz hz
                  have HBZ := Lib.hid (KN.out wz hz)
                  clear hz KN RN HBN HGN
                  go_wp2_with fail
                  exact ⟨⟨j + 1, by go_num, by omega, HBZ.out⟩, by simp [intOf]; omega⟩
              · as_aux_lemma =>
                  obtain ⟨i, hji⟩ : ∃ i, j = i + 1 := ⟨j - 1, by omega⟩
                  have hjp : (0 : Int) < (j : Int) := by omega
                  have hi1 : (j : Int) - 1 = (i : Int) := by omega
                  have hv1 : IntKind.i64.wrap ((j : Int) - 1) = (i : Int) := by rw [hi1]; exact IntWalk.i64_in _ (by omega)
                  have hik : (i : Int) < (k : Int) := by omega
                  have RG := Lib.hid (R0.out i hji wf HBF.out)
                  clear hji
                  go_wp2_with (first
                    | (refine wpList_load_row rfl 29 (.tmp 2) rfl w.heap.size rfl 29 _ (0, 0) _ NFD.out Tryd.underlying29 rfl szF.out ?_)
                    | (rw [← Z32_eq]; refine wpList_store_all rfl 29 (.tmp 11) (.tmp 57) rfl wd.heap.size 29 Z32.toArray _ rfl rfl nbF.out szF.out soF.out s1F.out ?_; rw [← HWF.out])
                    | (refine wpList_load_mid rfl 29 (.tmp 63) rfl g (i * 32) rfl (bvs p0) _ RG.out hu rfl hsi0 ?_)
                    | (refine wpList_store_all rfl 29 (.tmp 11) (.tmp 64) rfl wd.heap.size 29 (bvs first).toArray (bvs p0).toArray rfl rfl GF.out sz0.out so0.out s10.out ?_))
                  obtain ⟨wn, hwn⟩ : ∃ wn, wn = wf.setRow wd.heap.size (bvs p0).toArray := ⟨_, rfl⟩
                  rw [← hwn]
                  have HGN := Lib.hid (show wn.heap[wd.heap.size]? = some (.cells (bvs p0).toArray 29 (0, 0)) by rw [hwn]; exact setRow_heap _ _ _ _ _ (0, 0) GF.out)
                  have HBN := Lib.hid (show Below wc.heap.size wc wn by rw [hwn]; exact below_setRow HBF.out HBD.out.size _)
                  clear hwn RG
                  have KN := Lib.hid (fun W (hW : Below wn.heap.size wn W) => HBN.out.trans (hW.mono HBN.out.size))
                  have RN := Lib.hid (fun W (hW : Below wn.heap.size wn W) => (show W.rangeAt wd.heap.size 0 (bvs p0) from fun q v hv => by
                    rw [Nat.zero_add, cell_of_row W _ q _ _ _ ((hW.block _ (Array.getElem?_eq_some_iff.1 HGN.out).1).trans HGN.out)]
                    simpa using hv))
                  refine wp_region_quiet_in (fun w' => Below wn.heap.size wn w') (by kernel_rfl) (by kernel_rfl) (Below.refl wn.heap.size wn).drew ?_
                  refine wpQuiet_load_mid rfl _ _ rfl wd.heap.size 0 rfl (bvs p0) _ RN.out hu rfl hsi0 ?_
                  simp only [Act.put, List.setIfInBounds_toArray, List.set_cons_zero, List.set_cons_succ, List.getElem_toArray, List.getElem_cons_zero, List.getElem_cons_succ]
                  (refine wpQuiet_run (v := .slice (some ad) k c) rfl (fun w hC => by rfl) ?_; simp only [Act.put, List.setIfInBounds_toArray, List.set_cons_zero, List.set_cons_succ, List.getElem_toArray, List.getElem_cons_zero, List.getElem_cons_succ])
                  (refine wpQuiet_run (v := .int .i64 (j : Int)) rfl (fun w hC => by rfl) ?_; simp only [Act.put, List.setIfInBounds_toArray, List.set_cons_zero, List.set_cons_succ, List.getElem_toArray, List.getElem_cons_zero, List.getElem_cons_succ])
                  (refine wpQuiet_run (v := .pointer (some (ad.add j))) rfl (fun w hC => by go_simp) ?_; simp only [Act.put, List.setIfInBounds_toArray, List.set_cons_zero, List.set_cons_succ, List.getElem_toArray, List.getElem_cons_zero, List.getElem_cons_succ])
                  (refine wpQuiet_run (v := v1) rfl (fun w hC => by have hcl := CELLA.out w (KN.out w hC); go_simp) ?_; simp only [Act.put, List.setIfInBounds_toArray, List.set_cons_zero, List.set_cons_succ, List.getElem_toArray, List.getElem_cons_zero, List.getElem_cons_succ])
                  refine wpQuiet_call (f := 24) (xs := #[.tmp 65, .tmp 69]) #[.agg (bvs p0).toArray, v1] (.agg (bvs p1).toArray) rfl rfl Tryd.func24 (by kernel_rfl) (by kernel_rfl) (by simp [Act.eval]) (fun W hW => (LKA.out W (KN.out W hW)).mono fun _ _ h' => ⟨h'.1, hW.trans (h'.2.mono hW.size)⟩) ?_
                  simp only [Act.put, List.setIfInBounds_toArray, List.set_cons_zero, List.set_cons_succ, List.getElem_toArray, List.getElem_cons_zero, List.getElem_cons_succ]
                  (refine wpQuiet_run (v := .slice (some ⟨g, 0, none⟩) k k) rfl (fun w hC => by rfl) ?_; simp only [Act.put, List.setIfInBounds_toArray, List.set_cons_zero, List.set_cons_succ, List.getElem_toArray, List.getElem_cons_zero, List.getElem_cons_succ])
                  (refine wpQuiet_run (v := .int .i64 (j : Int)) rfl (fun w hC => by rfl) ?_; simp only [Act.put, List.setIfInBounds_toArray, List.set_cons_zero, List.set_cons_succ, List.getElem_toArray, List.getElem_cons_zero, List.getElem_cons_succ])
                  (refine wpQuiet_run (v := .pointer (some ⟨g, j * 32, none⟩)) rfl (fun w hC => by go_simp) ?_; simp only [Act.put, List.setIfInBounds_toArray, List.set_cons_zero, List.set_cons_succ, List.getElem_toArray, List.getElem_cons_zero, List.getElem_cons_succ])
                  refine wpQuiet_load_mid rfl _ _ rfl g (j * 32) rfl (bvs p1) _ (fun W hW => R1.out W (KN.out W hW)) hu rfl hsi ?_
                  simp only [Act.put, List.setIfInBounds_toArray, List.set_cons_zero, List.set_cons_succ, List.getElem_toArray, List.getElem_cons_zero, List.getElem_cons_succ]
                  (refine wpQuiet_run (v := .bool false) rfl (fun w hC => by exact exec_neq rfl p1 (by rw [← bvs_length]; exact B1.out) rfl rfl w) ?_; simp only [Act.put, List.setIfInBounds_toArray, List.set_cons_zero, List.set_cons_succ, List.getElem_toArray, List.getElem_cons_zero, List.getElem_cons_succ])
                  refine wpQuiet_nil ?_
                  intro wz hz
                  have HBZ := Lib.hid (KN.out wz hz)
                  clear hz KN RN HBN HGN
                  go_wp2_with fail
                  exact ⟨⟨j + 1, by go_num, by omega, HBZ.out⟩, by simp [intOf]; omega⟩
          · obtain rfl : j = k := by omega
            go_wp2_with fail
            go_ret
            exact ⟨rfl, HBC.out.trans (hBs.mono HBC.out.size)⟩
theorem chl_any {w : World} {v : Value} {first : List UInt8} {L : List (Value × List UInt8)} (hf : first.length = 32) (h : Pt w v L) (ht : Tables w S0 K0) :
    Calls Tryd.prog 7 #[.agg (bvs first).toArray, v] w fun e w' => e = .returned (.bool true) ∧ Below w.heap.size w w' := by
  by_cases hL : 8 < L.length
  · obtain ⟨ao, c, rfl, _⟩ := h
    exact chl_long ht hL
  · exact chl_short hf h ht (by omega)
end Go.Proofs.YtejbookaflnpeaaDoor
