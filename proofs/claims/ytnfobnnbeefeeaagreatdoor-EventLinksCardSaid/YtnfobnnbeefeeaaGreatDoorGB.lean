/- The reference's digits, Number. -/
import Derived.Test.YtnfobnnbeefeeaaGreatDoorGA
import Derived.Test.YtnfobnnbeefeeaaGreatDoorG1
import Derived.Lib.ItoaNum
import Derived.Test.YtnfobnnbeefeeaaGreatDoorG6
namespace Go.Proofs.YtnfobnnbeefeeaaGreatDoor.Wi
open Go Go.RowKit
set_option linter.unusedVariables false
set_option linter.unusedSimpArgs false
/-- The digits ahead of the last one. -/
def dPre (n : Nat) : List UInt8 := if n < 10 then [] else Lib.decDigits (n / 10)
def dLast (n : Nat) : UInt8 := UInt8.ofNat (48 + n % 10)
theorem dec_split (n : Nat) : Lib.decDigits n = dPre n ++ [dLast n] := by
  rw [Lib.decDigits, dPre, dLast]
  by_cases h : n < 10
  · rw [dif_pos h, if_pos h, Nat.mod_eq_of_lt h]; rfl
  · rw [dif_neg h, if_neg h]
theorem dLast_nat (n : Nat) : (dLast n).toNat = 48 + n % 10 := by
  rw [dLast, UInt8.toNat_ofNat']
  omega
theorem cv_dig (n : Nat) (W : World) : (convert 36 9 (.slice (some ⟨W.heap.size, 0, none⟩) 1 1)).run Tryz.prog (W.alloc (.cells #[.int .u8 (48 + (n : Int) % 10)] 5)) = .ok (.string (str [dLast n])) (W.alloc (.cells #[.int .u8 (48 + (n : Int) % 10)] 5)) := by
  have q : ((dLast n).toNat : Int) = 48 + (n : Int) % 10 := by rw [dLast_nat]; omega
  rw [← q]
  exact cv_one _ _ _ (heap_alloc_new _ _)
theorem dec_len : ∀ (k n : Nat), n < 10 ^ (k + 1) → (Lib.decDigits n).length ≤ k + 1
  | 0, n, h => by rw [Lib.decDigits, dif_pos (by omega)]; simp
  | k + 1, n, h => by
    rw [Lib.decDigits]
    by_cases h10 : n < 10
    · rw [dif_pos h10]; simp
    · rw [dif_neg h10, List.length_append, List.length_cons, List.length_nil]
      have := dec_len k (n / 10) (by rw [Nat.pow_succ] at h; omega)
      omega
def dgRel (w : World) (R : List UInt8) (a s : Value) (wr : World) : Prop := ∃ (n : Nat) (t : List UInt8), a = .int .u64 (n : Int) ∧ n < 18446744073709551616 ∧ s = .string (str t) ∧ R = dPre n ++ t ∧ Below w.heap.size w wr
set_option maxHeartbeats 4000000 in
set_option maxRecDepth 100000 in
theorem rdigits_any (n0 : Nat) (hn : n0 < 18446744073709551616) (w : World) : Calls Tryz.prog 118 #[.int .u64 (n0 : Int)] w fun e w' => e = .returned (.string (str (Lib.decDigits n0))) ∧ Below w.heap.size w w' := by
  obtain ⟨R, hR⟩ : ∃ R, R = Lib.decDigits n0 := ⟨_, rfl⟩
  rw [← hR]
  have HRL := Lib.hid (show R.length ≤ 20 by rw [hR]; exact dec_len 19 n0 (by omega))
  rw [dec_split] at hR
  have R1 := Lib.hid (show ∀ s, s = Value.string (str [dLast n0]) → dgRel w R (.int .u64 (n0 : Int)) s (w.alloc (.cells #[.int .u8 (48 + (n0 : Int) % 10)] 5)) from fun s hs => ⟨n0, [dLast n0], rfl, hn, hs, hR, (Below.refl _ _).alloc (Nat.le_refl _) _⟩)
  have cv := cv_dig n0 w
  obtain ⟨T, hT⟩ : ∃ T, T = str [dLast n0] := ⟨_, rfl⟩
  rw [← hT] at cv R1
  have R0 := Lib.hid (R1.out _ rfl)
  have m0 : 0 ≤ (n0 : Int) % 10 := by omega
  have m1 : (n0 : Int) % 10 < 10 := by omega
  have m2 : (48 + (n0 : Int) % 10) % 256 = 48 + (n0 : Int) % 10 := by omega
  clear hR hT R1
  go_enter Tryz.func118, Tryz.ntmps118
  go_wp2_with fail
  clear cv m0 m1 m2
  go_loopw [0, 3] (fun a s wr => dgRel w R a s wr) (fun a _ _ => (intOf a).toNat)
  case atStart => exact R0.out
  case round =>
    obtain ⟨wq, rfl⟩ : ∃ wq : World, wq = wr := ⟨_, rfl⟩
    obtain ⟨n, t, rfl, hnb, rfl, hRt, hbq⟩ := hrel
    have HBq := Lib.hid hbq
    clear R0 hbq
    by_cases h10 : n < 10
    · have q1 : ¬ (10 : Int) ≤ (n : Int) := by omega
      rw [dPre, if_pos h10, List.nil_append] at hRt
      subst hRt
      go_wp2_with fail
      go_ret
      exact ⟨rfl, HBq.out⟩
    · have q1 : (10 : Int) ≤ (n : Int) := by omega
      rw [dPre, if_neg h10] at hRt
      obtain ⟨m, hm⟩ : ∃ m, m = n / 10 := ⟨_, rfl⟩
      rw [← hm, dec_split, List.append_assoc] at hRt
      have hmI : (n : Int) / 10 = (m : Int) := by omega
      have hmn : m < n := by omega
      have e2 : str [dLast m] ++ str t = str ([dLast m] ++ t) := wstr_app _ _
      have z1 := wstr_size [dLast m]
      have z2 := wstr_size t
      have RL1 := Lib.hid (show ∀ s, s = Value.string (str ([dLast m] ++ t)) → dgRel w R (.int .u64 (m : Int)) s (wq.alloc (.cells #[.int .u8 (48 + (m : Int) % 10)] 5)) from fun s hs => ⟨m, [dLast m] ++ t, rfl, by omega, hs, hRt, HBq.out.alloc HBq.out.size _⟩)
      have cv := cv_dig m wq
      obtain ⟨T1, hT1⟩ : ∃ T1, T1 = str [dLast m] := ⟨_, rfl⟩
      obtain ⟨T2, hT2⟩ : ∃ T2, T2 = str t := ⟨_, rfl⟩
      obtain ⟨T3, hT3⟩ : ∃ T3, T3 = str ([dLast m] ++ t) := ⟨_, rfl⟩
      rw [← hT1] at cv e2 z1
      rw [← hT2] at e2 z2
      rw [← hT3] at e2 RL1
      rw [← hT2]
      have RL := Lib.hid (RL1.out _ rfl)
      have htl : t.length ≤ 20 := by have := HRL.out; rw [hRt] at this; simp only [List.length_append] at this; omega
      rw [List.length_cons, List.length_nil] at z1
      have m0 : 0 ≤ (m : Int) % 10 := by omega
      have m1 : (m : Int) % 10 < 10 := by omega
      have m2 : (48 + (m : Int) % 10) % 256 = 48 + (m : Int) % 10 := by omega
      clear hRt hT1 hT2 hT3 RL1 hm
      go_wp2_with fail
      exact ⟨RL.out, by simp [intOf]; omega⟩
set_option maxHeartbeats 4000000 in
set_option maxRecDepth 100000 in
theorem rnumber_any (n : Int) (h0 : -9223372036854775808 ≤ n) (h1 : n ≤ 9223372036854775807) (w : World) : Calls Tryz.prog 82 #[.int .i64 n] w fun e w' => e = .returned (.string (str (Lib.itoa n))) ∧ Below w.heap.size w w' := by
  obtain ⟨R, hR⟩ : ∃ R, R = Lib.itoa n := ⟨_, rfl⟩
  rw [← hR]
  rw [Lib.itoa] at hR
  by_cases hn : n < 0
  · rw [if_pos hn] at hR
    obtain ⟨m, hm⟩ : ∃ m, m = n.natAbs := ⟨_, rfl⟩
    rw [← hm] at hR
    have DG := Lib.hid (rdigits_any m (by omega) w)
    have hl := dec_len 19 m (by omega)
    have e1 : str [45] ++ str (Lib.decDigits m) = str R := by rw [wstr_app, hR]; rfl
    have z2 := wstr_size (Lib.decDigits m)
    obtain ⟨T2, hT2⟩ : ∃ T2, T2 = str (Lib.decDigits m) := ⟨_, rfl⟩
    rw [← hT2] at DG e1 z2
    obtain ⟨T3, hT3⟩ : ∃ T3, T3 = str R := ⟨_, rfl⟩
    rw [← hT3] at e1 ⊢
    have e2 : (⟨#[45]⟩ : ByteArray) ++ T2 = T3 := e1
    have em : -(n + 1) + 1 = (m : Int) := by omega
    have b1 : -9223372036854775808 ≤ n + 1 ∧ n + 1 ≤ 9223372036854775807 := by omega
    have b2 : -9223372036854775808 ≤ -(n + 1) ∧ -(n + 1) ≤ 9223372036854775807 := by omega
    have b3 : 0 ≤ -(n + 1) := by omega
    have b4 : -(n + 1) < 18446744073709551616 := by omega
    clear hR hm hT2 hT3 e1
    go_enter Tryz.func82, Tryz.ntmps82
    go_wp2_with fail
    refine DG.out.mono ?_
    rintro e w2 ⟨rfl, hb2⟩
    have HB2 := Lib.hid hb2
    clear hb2
    go_wp2_with fail
    go_ret
    exact ⟨rfl, HB2.out⟩
  · rw [if_neg hn] at hR
    obtain ⟨m, hm⟩ : ∃ m, m = n.toNat := ⟨_, rfl⟩
    rw [← hm] at hR
    have DG := Lib.hid (rdigits_any m (by omega) w)
    rw [← hR] at DG
    obtain rfl : n = (m : Int) := by omega
    have b4 : (m : Int) < 18446744073709551616 := by omega
    have b5 : (0 : Int) ≤ (m : Int) := by omega
    clear hR hm
    go_enter Tryz.func82, Tryz.ntmps82
    go_wp2_with fail
    refine DG.out.mono ?_
    rintro e w2 ⟨rfl, hb2⟩
    have HB2 := Lib.hid hb2
    clear hb2
    go_wp2_with fail
    go_ret
    exact ⟨rfl, HB2.out⟩
end Go.Proofs.YtnfobnnbeefeeaaGreatDoor.Wi
/- The reference's Quote. -/
namespace Go.Proofs.YtnfobnnbeefeeaaGreatDoor.Wi
open Go Go.RowKit
set_option linter.unusedVariables false
set_option linter.unusedSimpArgs false
def rqRel (w : World) (l : List UInt8) (o i : Value) (wr : World) : Prop := ∃ j : Nat, i = .int .i64 (j : Int) ∧ j ≤ l.length ∧ o = .string (str (qcs (l.take j))) ∧ Below w.heap.size w wr
theorem hex_ext : ∀ i : Fin 16, (hexS.extract i.val (i.val + 1)).data.toList = [hxd i.val] := by decide +kernel
theorem hex_extract (i : Nat) (hi : i < 16) : (ByteArray.mk #[48, 49, 50, 51, 52, 53, 54, 55, 56, 57, 97, 98, 99, 100, 101, 102]).extract i (i + 1) = str [hxd i] := by
  apply ByteArray.ext
  apply Array.ext'
  rw [show (str [hxd i]).data.toList = [hxd i] by simp [str]]
  exact hex_ext ⟨i, hi⟩
set_option maxHeartbeats 8000000 in
set_option maxRecDepth 100000 in
theorem rquote_any (l : List UInt8) (hl : l.length ≤ 1000000000) (w : World) : Calls Tryz.prog 83 #[.string (str l)] w fun e w' => e = .returned (.string (str (qt l))) ∧ Below w.heap.size w w' := by
  have hz := str_sizeX l
  have hat : ∀ (j : Nat) (c : UInt8), l[j]? = some c → ∀ h : j < (str l).size, (str l)[j]'h = c := fun j c hc h => by
    rw [Lib.getD_at (str l) j h, show (str l).data.toList = l from by simp [str], List.getD, hc]; rfl
  have hex : ∀ (j : Nat) (c : UInt8), l[j]? = some c → (str l).extract j (j + 1) = str [c] := fun j c hc => by
    rw [str_extractV]
    congr 1
    rw [List.take_add_one, hc, List.drop_append]
    have hj : j < l.length := (List.getElem?_eq_some_iff.1 hc).1
    have e : (l.take j).length = j := by rw [List.length_take]; omega
    rw [e, List.drop_eq_nil_of_le (by omega)]
    simp
  have R0 := Lib.hid (show rqRel w l (.string ⟨#[]⟩) (.int .i64 0) w from ⟨0, rfl, Nat.zero_le _, rfl, Below.refl _ _⟩)
  obtain ⟨S, hS⟩ : ∃ S, S = str l := ⟨_, rfl⟩
  rw [← hS] at hz hat hex ⊢
  have HAT := Lib.hid hat
  have HEX := Lib.hid hex
  clear hat hex hS
  go_enter Tryz.func83, Tryz.ntmps83
  go_wp2_with fail
  go_loopw [3, 5] (fun o i wr => rqRel w l o i wr) (fun _ i _ => l.length - (intOf i).toNat)
  case atStart => exact R0.out
  case round =>
    obtain ⟨wq, rfl⟩ : ∃ wq : World, wq = wr := ⟨_, rfl⟩
    obtain ⟨j, rfl, hj, rfl, hbq⟩ := hrel
    have q0 : (0 : Int) ≤ (j : Int) := by omega
    have HBq := Lib.hid hbq
    have htl := qcs_len (l.take j)
    rw [List.length_take] at htl
    have zt := str_sizeX (qcs (l.take j))
    clear hbq R0
    by_cases hjl : j < l.length
    · have q1 : (j : Int) < (l.length : Int) := by omega
      have q2 : (j : Int) < (S.size : Int) := by omega
      have q3 : -9223372036854775808 ≤ (j : Int) + 1 ∧ (j : Int) + 1 ≤ 9223372036854775807 := by omega
      have q4 : (j : Int) + 1 ≤ (S.size : Int) := by omega
      have q5 : j + 1 ≤ l.length := hjl
      have q6 : ¬ l.length < j + 1 := by omega
      obtain ⟨c, hc⟩ : ∃ c, l[j]? = some c := ⟨_, List.getElem?_eq_getElem hjl⟩
      have hsj := HAT.out j c hc
      have hxj := HEX.out j c hc
      have htk := qcs_take hc
      obtain ⟨m, hm⟩ : ∃ m : Nat, m = c.toNat := ⟨_, rfl⟩
      have hmb : m < 256 := by have := c.toNat_lt; omega
      have hcm : ∀ h : j < S.size, (S[j]'h).toNat = m := fun h => by rw [hsj h]; exact hm.symm
      obtain ⟨Q, hQ⟩ : ∃ Q, Q = qc c := ⟨_, rfl⟩
      rw [← hQ] at htk
      unfold qc at hQ
      rw [← hm] at hQ
      have RL1 := Lib.hid (show ∀ W, Below w.heap.size w W → ∀ o, o = Value.string (str (qcs (l.take j) ++ Q)) → rqRel w l o (.int .i64 ((j + 1 : Nat) : Int)) W from fun W hW o ho => ⟨j + 1, rfl, hjl, by rw [ho, htk], hW⟩)
      obtain ⟨t, ht⟩ : ∃ t, t = qcs (l.take j) := ⟨_, rfl⟩
      rw [← ht] at RL1 zt htl ⊢
      obtain ⟨T, hT⟩ : ∃ T, T = str t := ⟨_, rfl⟩
      have HQ := Lib.hid hQ
      have HT := Lib.hid hT
      rw [← hT] at zt ⊢
      clear hc hsj htk hm hQ ht hT
      obtain ⟨C1, hC1⟩ : ∃ C1, C1 = str [c] := ⟨_, rfl⟩
      rw [← hC1] at hxj
      have HC1 := Lib.hid hC1
      have z1 : C1.size = 1 := by rw [hC1, str_sizeX]; rfl
      clear hC1
      by_cases h1 : m = 34 ∨ m = 92
      · have hq := HQ.out.trans (if_pos h1)
        have e1 : (⟨#[92]⟩ : ByteArray) ++ C1 = str [92, c] := by rw [HC1.out]; exact wstr_app [92] [c]
        have e2 : T ++ str [92, c] = str (t ++ Q) := by rw [HT.out, wstr_app, hq]
        have z2 : (str [92, c]).size = 2 := str_sizeX _
        obtain ⟨C2, hC2⟩ : ∃ C2, C2 = str [92, c] := ⟨_, rfl⟩
        obtain ⟨C3, hC3⟩ : ∃ C3, C3 = str (t ++ Q) := ⟨_, rfl⟩
        rw [← hC2] at e1 e2 z2
        rw [← hC3] at e2 RL1
        have RL := Lib.hid (RL1.out wq HBq.out _ rfl)
        clear hC2 hC3 RL1 hq
        rcases h1 with rfl | rfl
        · go_wp2_with fail
          exact ⟨RL.out, by simp [intOf]; omega⟩
        · go_wp2_with fail
          exact ⟨RL.out, by simp [intOf]; omega⟩
      have hq := HQ.out.trans (if_neg h1)
      have HQ2 := Lib.hid hq
      have n1 : ((m : Int) == 34) = false := by rw [beq_eq_false_iff_ne]; omega
      have n2 : ((m : Int) == 92) = false := by rw [beq_eq_false_iff_ne]; omega
      clear hq
      by_cases h2 : 32 ≤ m ∧ m ≤ 126
      · have hq := HQ2.out.trans (if_pos h2)
        have e2 : T ++ C1 = str (t ++ Q) := by rw [HT.out, HC1.out, wstr_app, hq]
        obtain ⟨C3, hC3⟩ : ∃ C3, C3 = str (t ++ Q) := ⟨_, rfl⟩
        rw [← hC3] at e2 RL1
        have RL := Lib.hid (RL1.out wq HBq.out _ rfl)
        have p1 : (32 : Int) ≤ (m : Int) := by omega
        have p2 : (m : Int) < 127 := by omega
        clear hC3 RL1 hq
        go_wp2_with fail
        exact ⟨RL.out, by simp [intOf]; omega⟩
      · have hq := HQ2.out.trans (if_neg h2)
        have h3 : ¬ (32 : Int) ≤ (m : Int) ∨ (32 : Int) ≤ (m : Int) ∧ ¬ (m : Int) < 127 := by omega
        have x1 := hex_extract (m / 16) (by omega)
        have x2 := hex_extract (m % 16) (by omega)
        have e1 : (⟨#[92, 120]⟩ : ByteArray) ++ str [hxd (m / 16)] = str ([92, 120] ++ [hxd (m / 16)]) := wstr_app [92, 120] _
        have e2 : str ([92, 120] ++ [hxd (m / 16)]) ++ str [hxd (m % 16)] = str ([92, 120] ++ [hxd (m / 16)] ++ [hxd (m % 16)]) := wstr_app _ _
        have e3 : T ++ str ([92, 120] ++ [hxd (m / 16)] ++ [hxd (m % 16)]) = str (t ++ Q) := by rw [HT.out, wstr_app, hq]; rfl
        have y1 : (str [hxd (m / 16)]).size = 1 := str_sizeX _
        have y2 : (str [hxd (m % 16)]).size = 1 := str_sizeX _
        have y3 : (str ([92, 120] ++ [hxd (m / 16)])).size = 3 := str_sizeX _
        have y4 : (str ([92, 120] ++ [hxd (m / 16)] ++ [hxd (m % 16)])).size = 4 := str_sizeX _
        obtain ⟨D1, hD1⟩ : ∃ D, D = str [hxd (m / 16)] := ⟨_, rfl⟩
        obtain ⟨D2, hD2⟩ : ∃ D, D = str [hxd (m % 16)] := ⟨_, rfl⟩
        obtain ⟨D3, hD3⟩ : ∃ D, D = str ([92, 120] ++ [hxd (m / 16)]) := ⟨_, rfl⟩
        obtain ⟨D4, hD4⟩ : ∃ D, D = str ([92, 120] ++ [hxd (m / 16)] ++ [hxd (m % 16)]) := ⟨_, rfl⟩
        obtain ⟨C3, hC3⟩ : ∃ C3, C3 = str (t ++ Q) := ⟨_, rfl⟩
        rw [← hD1] at x1 e1 y1
        rw [← hD2] at x2 e2 y2
        rw [← hD3] at e1 e2 y3
        rw [← hD4] at e2 e3 y4
        rw [← hC3] at e3 RL1
        have r1 : (0 : Int) ≤ (m : Int) / 16 := by omega
        have r2 : (m : Int) / 16 + 1 ≤ 16 := by omega
        have r3 : (0 : Int) ≤ (m : Int) % 16 := by omega
        have r4 : (m : Int) % 16 + 1 ≤ 16 := by omega
        have r5 : m / 16 + 1 ≤ 16 := by omega
        have r6 : m % 16 + 1 ≤ 16 := by omega
        have r7 : ¬ 16 < m / 16 + 1 := by omega
        have r8 : ¬ 16 < m % 16 + 1 := by omega
        clear hq hD1 hD2 hD3 hD4 hC3 h2
        rcases h3 with h3 | ⟨h3, h4⟩
        · go_upto_region 11 with fail
          go_quiet (fail)
          have RL := Lib.hid (RL1.out (wq.drewN nq) (below_drewG HBq.out nq) _ rfl)
          clear RL1
          go_wp2_with fail
          exact ⟨RL.out, by simp [intOf]; omega⟩
        · go_upto_region 11 with fail
          go_quiet (fail)
          have RL := Lib.hid (RL1.out (wq.drewN nq) (below_drewG HBq.out nq) _ rfl)
          clear RL1
          go_wp2_with fail
          exact ⟨RL.out, by simp [intOf]; omega⟩
    · have q1 : ¬ (j : Int) < (l.length : Int) := by omega
      have e1 : (⟨#[34]⟩ : ByteArray) ++ str (qcs (l.take j)) = str ([34] ++ qcs (l.take j)) := wstr_app [34] _
      have e2 : str ([34] ++ qcs (l.take j)) ++ (⟨#[34]⟩ : ByteArray) = str (qt l) := by
        rw [show (⟨#[34]⟩ : ByteArray) = str [34] from rfl, wstr_app, List.take_of_length_le (by omega)]; rfl
      have z1 := str_sizeX ([34] ++ qcs (l.take j))
      rw [List.length_append, List.length_cons, List.length_nil] at z1
      obtain ⟨T, hT⟩ : ∃ T, T = str (qcs (l.take j)) := ⟨_, rfl⟩
      obtain ⟨T1, hT1⟩ : ∃ T1, T1 = str ([34] ++ qcs (l.take j)) := ⟨_, rfl⟩
      obtain ⟨T2, hT2⟩ : ∃ T2, T2 = str (qt l) := ⟨_, rfl⟩
      rw [← hT] at e1 zt ⊢
      rw [← hT1] at e1 e2 z1
      rw [← hT2] at e2
      have HT2 := Lib.hid hT2
      clear hT hT1 hT2
      go_wp2_with fail
      go_ret
      exact ⟨congrArg (fun s => Ending.returned (Value.string s)) HT2.out, HBq.out⟩
end Go.Proofs.YtnfobnnbeefeeaaGreatDoor.Wi
/- The reference's Print. -/
namespace Go.Proofs.YtnfobnnbeefeeaaGreatDoor.Wi
open Go Go.RowKit
set_option linter.unusedVariables false
set_option linter.unusedSimpArgs false
def RpAny (x : VT) : Prop := ∀ (N : Nat) (w : World), x.At N w → N ≤ w.heap.size → x.pz ≤ 1000000 → Calls Tryz.prog 84 #[.agg x.cells.toArray] w (StrI x.pv w)
def rpRel (w1 : World) (l : List VT) (sv i : Value) (wr : World) : Prop := ∃ j : Nat, i = .int .i64 (j : Int) ∧ j ≤ l.length ∧ sv = .string (str (pvL false (l.take j))) ∧ Below w1.heap.size w1 wr
set_option maxHeartbeats 8000000 in
set_option maxRecDepth 100000 in
theorem rprint_any : ∀ v : VT, RpAny v := by
  intro v
  induction v using VT.ind with
  | h k n s ao c l ih =>
    intro N w hv hN hlim
    obtain ⟨hk, hn, hs, hll⟩ := hv.fit
    have hmem : ∀ x ∈ l, x.At N w := by have h := hv; rw [VT.At] at h; exact atL_mem h.2.2.2.2.2
    have hpl := pvL_len l N w hmem false
    rw [VT.pz] at hlim
    obtain ⟨w1, hw1⟩ : ∃ w1, w1 = w.alloc (.cells (VT.mk k n s ao c l).cells.toArray 26) := ⟨_, rfl⟩
    obtain ⟨g, hg⟩ : ∃ g, g = w.heap.size := ⟨_, rfl⟩
    have hb1 : Below w.heap.size w w1 := by rw [hw1]; exact (Below.refl _ _).alloc (Nat.le_refl _) _
    have nk : w1.heap[g]? = some (.cells (VT.mk k n s ao c l).cells.toArray 26 (0, 0)) := by rw [hw1, hg]; exact heap_alloc_new _ _
    have hgl := lt_of_rowW nk
    have KG := Lib.hid (show ∀ W, Below w1.heap.size w1 W → W.cell? ⟨g, 0, none⟩ = some (.int .i64 k) ∧ W.cell? ⟨g, 1, none⟩ = some (.int .i64 n) ∧ W.cell? ⟨g, 2, none⟩ = some (.string (str s)) ∧ W.cell? ⟨g, 3, none⟩ = some (.slice ao l.length c) from fun W hF => by
      have q := (hF.block g hgl).trans nk
      exact ⟨by rw [cell_of_rowW W g 0 _ _ _ q]; rfl, by rw [cell_of_rowW W g 1 _ _ _ q]; rfl, by rw [cell_of_rowW W g 2 _ _ _ q]; rfl, by rw [cell_of_rowW W g 3 _ _ _ q]; rfl⟩)
    obtain ⟨c0, c1, c2, c3⟩ := KG.out w1 (Below.refl _ _)
    obtain ⟨P, hP⟩ : ∃ P, P = (VT.mk k n s ao c l).pv := ⟨_, rfl⟩
    rw [← hP]
    rw [VT.pv] at hP
    have HP := Lib.hid hP
    have HB1 := Lib.hid hb1
    have HW1 := Lib.hid (show w1 = w.alloc (.cells #[.int .i64 k, .int .i64 n, .string (str s), .slice ao l.length c] 26) from hw1)
    have HG := Lib.hid hg
    have HV := Lib.hid hv
    have IH := Lib.hid ih
    have HMEM := Lib.hid hmem
    clear hb1 nk hw1 hg hv ih hP hgl hmem
    show Calls Tryz.prog 84 #[.agg #[.int .i64 k, .int .i64 n, .string (str s), .slice ao l.length c]] w _
    by_cases h1 : k = 1
    · subst h1
      have hp := HP.out.trans (if_pos rfl)
      have NU := Lib.hid (rnumber_any n hn.1 hn.2 w1)
      rw [← hp] at NU
      clear hp
      go_enter Tryz.func84, Tryz.ntmps84
      go_upto_region 1 with fail
      rw [← HW1.out, ← HG.out]
      go_wp2_with fail
      refine NU.out.mono ?_
      rintro e w2 ⟨rfl, hb2⟩
      have RL := Lib.hid (HB1.out.trans (hb2.mono HB1.out.size))
      clear hb2
      go_wp2_with fail
      go_ret
      exact ⟨rfl, RL.out⟩
    have e1 : (k == 1) = false := by simpa using h1
    by_cases h2 : k = 2
    · subst h2
      rw [if_pos rfl, if_neg (by omega)] at hlim
      have hp := HP.out.trans ((if_neg (by decide)).trans (if_pos rfl))
      have QU := Lib.hid (rquote_any s (by omega) w1)
      rw [← hp] at QU
      clear hp
      obtain ⟨S, hS⟩ : ∃ S, S = str s := ⟨_, rfl⟩
      rw [← hS] at c2 QU HW1 ⊢
      clear hS
      go_enter Tryz.func84, Tryz.ntmps84
      go_upto_region 1 with fail
      rw [← HW1.out, ← HG.out]
      go_wp2_with fail
      refine QU.out.mono ?_
      rintro e w2 ⟨rfl, hb2⟩
      have RL := Lib.hid (HB1.out.trans (hb2.mono HB1.out.size))
      clear hb2
      go_wp2_with fail
      go_ret
      exact ⟨rfl, RL.out⟩
    have e2 : (k == 2) = false := by simpa using h2
    by_cases h3 : k = 3
    · subst h3
      rw [if_neg (by omega), if_pos rfl] at hlim
      have hp := HP.out.trans ((if_neg h1).trans ((if_neg h2).trans (if_pos rfl)))
      have HPP := Lib.hid hp
      have R0 := Lib.hid (show rpRel w1 l (.string ⟨#[]⟩) (.int .i64 0) w1 from ⟨0, rfl, Nat.zero_le _, by rw [List.take_zero, pvL]; rfl, Below.refl _ _⟩)
      clear hp h1 h2 e1 e2
      go_enter Tryz.func84, Tryz.ntmps84
      go_upto_region 1 with fail
      rw [← HW1.out, ← HG.out]
      go_wp2_with fail
      clear c0 c1 c2 c3
      go_loopw [3, 4] (fun s i wr => rpRel w1 l s i wr) (fun _ i _ => l.length - (intOf i).toNat)
      case atStart => exact R0.out
      case round =>
        obtain ⟨wq, rfl⟩ : ∃ wq : World, wq = wr := ⟨_, rfl⟩
        obtain ⟨j, rfl, hj, rfl, hbq⟩ := hrel
        have q0 : (0 : Int) ≤ (j : Int) := by omega
        obtain ⟨d0, d1, d2, d3⟩ := KG.out wq hbq
        have HBq := Lib.hid hbq
        have hpj := pvL_len (l.take j) N w (fun x hx => HMEM.out x (List.mem_of_mem_take hx)) false
        clear hbq R0
        have zt := str_sizeX (pvL false (l.take j))
        obtain ⟨T, hT⟩ : ∃ T, T = str (pvL false (l.take j)) := ⟨_, rfl⟩
        rw [← hT] at zt ⊢
        by_cases hjl : j < l.length
        · have q1 : (j : Int) < (l.length : Int) := by omega
          obtain ⟨x, hx⟩ : ∃ x, l[j]? = some x := ⟨_, List.getElem?_eq_getElem hjl⟩
          obtain ⟨hxv, ad, rfl, had, hxc⟩ := HV.out.elem hx
          have nb : ∀ k, k < N → wq.heap[k]? = w.heap[k]? := fun k hk => ((HB1.out.trans (HBq.out.mono HB1.out.size)).block k (by omega))
          have KX := Lib.hid (hxc wq nb)
          have htk := pvL_take hx
          have hpz := pzL_at hx
          have hxl := pv_len x N w hxv
          have CX := Lib.hid (IH.out x (List.mem_of_getElem? hx) N wq (hxv.keep nb) (by have h1 := HB1.out.size; have h2 := HBq.out.size; omega) (by omega))
          clear hxv hxc had hx nb d0 d1 d2
          by_cases j0 : 0 < j
          · have j0' : (0 : Int) < (j : Int) := by omega
            have x1 : T ++ (⟨#[32]⟩ : ByteArray) = str (pvL false (l.take j) ++ [32]) := by rw [hT]; exact wstr_app _ [32]
            have z1 := str_sizeX (pvL false (l.take j) ++ [32])
            rw [List.length_append, List.length_cons, List.length_nil] at z1
            have HEQ : str (pvL false (l.take j) ++ [32]) ++ str x.pv = str (pvL false (l.take (j + 1))) := by rw [wstr_app, htk, if_pos j0]
            obtain ⟨T1, hT1⟩ : ∃ T1, T1 = str (pvL false (l.take j) ++ [32]) := ⟨_, rfl⟩
            rw [← hT1] at x1 z1 HEQ
            clear hT1 hT htk
            obtain ⟨U, hU⟩ : ∃ U, U = str x.pv := ⟨_, rfl⟩
            have zu := str_sizeX x.pv
            rw [← hU] at zu HEQ
            have CX2 := Lib.hid (show Calls Tryz.prog 84 #[.agg x.cells.toArray] wq (fun e w' => e = .returned (.string U) ∧ Below wq.heap.size wq w') by rw [hU]; exact CX.out)
            obtain ⟨R, hR⟩ : ∃ R, R = str (pvL false (l.take (j + 1))) := ⟨_, rfl⟩
            rw [← hR] at HEQ
            have HR := Lib.hid hR
            clear hR hU CX
            go_wp2_with (with_reducible show wpList _ _ _ _ _ _; refine wpList_load_allW rfl 26 (.tmp 35) rfl _ rfl x.cells _ KX.out Tryz.underlying26 rfl (Tryz.valSize x) ?_)
            refine CX2.out.mono ?_
            rintro e w6 ⟨rfl, hb6⟩
            have RL := Lib.hid (show rpRel w1 l (.string R) (.int .i64 ((j + 1 : Nat) : Int)) w6 from ⟨j + 1, rfl, hjl, by rw [HR.out], HBq.out.trans (hb6.mono HBq.out.size)⟩)
            clear hb6
            go_wp2_with fail
            exact ⟨RL.out, by simp [intOf]; omega⟩
          · have j0' : ¬ (0 : Int) < (j : Int) := by omega
            have HEQ : T ++ str x.pv = str (pvL false (l.take (j + 1))) := by rw [hT, wstr_app, htk, if_neg j0, List.append_nil]
            clear hT htk
            obtain ⟨U, hU⟩ : ∃ U, U = str x.pv := ⟨_, rfl⟩
            have zu := str_sizeX x.pv
            rw [← hU] at zu HEQ
            have CX2 := Lib.hid (show Calls Tryz.prog 84 #[.agg x.cells.toArray] wq (fun e w' => e = .returned (.string U) ∧ Below wq.heap.size wq w') by rw [hU]; exact CX.out)
            obtain ⟨R, hR⟩ : ∃ R, R = str (pvL false (l.take (j + 1))) := ⟨_, rfl⟩
            rw [← hR] at HEQ
            have HR := Lib.hid hR
            clear hR hU CX
            go_wp2_with (with_reducible show wpList _ _ _ _ _ _; refine wpList_load_allW rfl 26 (.tmp 35) rfl _ rfl x.cells _ KX.out Tryz.underlying26 rfl (Tryz.valSize x) ?_)
            refine CX2.out.mono ?_
            rintro e w6 ⟨rfl, hb6⟩
            have RL := Lib.hid (show rpRel w1 l (.string R) (.int .i64 ((j + 1 : Nat) : Int)) w6 from ⟨j + 1, rfl, hjl, by rw [HR.out], HBq.out.trans (hb6.mono HBq.out.size)⟩)
            clear hb6
            go_wp2_with fail
            exact ⟨RL.out, by simp [intOf]; omega⟩
        · have q1 : ¬ (j : Int) < (l.length : Int) := by omega
          have hjt : l.take j = l := List.take_of_length_le (by omega)
          rw [hjt] at hT hpj zt
          have x1 : (⟨#[91]⟩ : ByteArray) ++ T = str ([91] ++ pvL false l) := by rw [hT]; exact wstr_app [91] _
          have x2 : str ([91] ++ pvL false l) ++ (⟨#[93]⟩ : ByteArray) = str P := by
            rw [show (⟨#[93]⟩ : ByteArray) = str [93] from rfl, wstr_app, HPP.out]
          have z1 := str_sizeX ([91] ++ pvL false l)
          rw [List.length_append, List.length_cons, List.length_nil] at z1
          obtain ⟨T1, hT1⟩ : ∃ T1, T1 = str ([91] ++ pvL false l) := ⟨_, rfl⟩
          obtain ⟨T2, hT2⟩ : ∃ T2, T2 = str P := ⟨_, rfl⟩
          rw [← hT1] at x1 x2 z1
          rw [← hT2] at x2
          have HT2 := Lib.hid hT2
          have HBE := Lib.hid (HB1.out.trans (HBq.out.mono HB1.out.size))
          clear hT hT1 hT2 hjt
          go_wp2_with fail
          go_ret
          exact ⟨congrArg (fun s => Ending.returned (Value.string s)) HT2.out, HBE.out⟩
    · have hp := HP.out.trans ((if_neg h1).trans ((if_neg h2).trans (if_neg h3)))
      subst hp
      have e3 : (k != 3) = true := by simpa using h3
      go_enter Tryz.func84, Tryz.ntmps84
      go_upto_region 1 with fail
      rw [← HW1.out, ← HG.out]
      go_wp2_with fail
      go_ret
      exact ⟨rfl, HB1.out⟩
end Go.Proofs.YtnfobnnbeefeeaaGreatDoor.Wi
