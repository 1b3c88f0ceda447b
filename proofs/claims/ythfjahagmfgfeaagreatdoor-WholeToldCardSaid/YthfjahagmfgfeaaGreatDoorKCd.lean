/- parseNumber. -/
import Derived.Test.YthfjahagmfgfeaaGreatDoorKCz
namespace Go.Proofs.YthfjahagmfgfeaaGreatDoor.Cr
open Go Go.RowKit
set_option linter.unusedVariables false
set_option linter.unusedSimpArgs false
def str (l : List UInt8) : ByteArray := ⟨l.toArray⟩
theorem str_size (l : List UInt8) : (str l).size = l.length := by simp [str, ByteArray.size]
theorem str_at (l : List UInt8) (k : Nat) (h : k < (str l).size) : (str l)[k]'h = l.getD k 0 := by
  have h2 : k < l.length := by rwa [str_size] at h
  simp [str, ByteArray.getElem_eq_getElem_data, List.getD, h2]
def dig (b : UInt8) : Bool := decide (48 ≤ b.toNat) && decide (b.toNat ≤ 57)
theorem dig_iff (b : UInt8) : dig b = true ↔ 48 ≤ b.toNat ∧ b.toNat ≤ 57 := by simp [dig]
/-- One or two digits, without a 0 ahead of another one. -/
def pn : List UInt8 → Option Nat
  | [a] => if dig a = true then some (a.toNat - 48) else none
  | [a, b] => if a.toNat = 48 then none else if dig a = true then (if dig b = true then some ((a.toNat - 48) * 10 + (b.toNat - 48)) else none) else none
  | _ => none
theorem pn_le {l : List UInt8} {n : Nat} (h : pn l = some n) : n ≤ 99 := by
  unfold pn at h
  split at h
  · split at h
    · rename_i hd; rw [dig_iff] at hd; injection h with h; omega
    · cases h
  · split at h
    · cases h
    · split at h
      · split at h
        · rename_i h1 h2; rw [dig_iff] at h1 h2; injection h with h; omega
        · cases h
      · cases h
  · cases h
def pnA (o : Option Nat) : Value := match o with
  | some n => .tuple #[.int .i64 (n : Int), .bool true]
  | none => .tuple #[.int .i64 0, .bool false]
/-- Of so many bytes the number. -/
def pv (l : List UInt8) (k : Nat) : Nat := if k = 0 then 0 else if k = 1 then (l.getD 0 0).toNat - 48 else ((l.getD 0 0).toNat - 48) * 10 + ((l.getD 1 0).toNat - 48)
def pnRel (l : List UInt8) (i n : Value) : Prop := ∃ k : Nat, i = .int .i64 (k : Int) ∧ k ≤ l.length ∧ n = .int .i64 (pv l k : Int) ∧ ∀ j, j < k → dig (l.getD j 0) = true
theorem pn_none {l : List UInt8} {k : Nat} (hl : l.length ≤ 2) (hk : k < l.length) (hd : dig (l.getD k 0) = false) : pn l = none := by
  match l, hl, hk with
  | [a], _, hk =>
    obtain rfl : k = 0 := by simpa using hk
    have : dig a = false := hd
    simp [pn, this]
  | [a, b], _, hk =>
    obtain rfl | rfl : k = 0 ∨ k = 1 := by simp at hk; omega
    · have : dig a = false := hd
      simp [pn, this]
    · have : dig b = false := hd
      simp [pn, this]
theorem pn_some {l : List UInt8} (hl : l.length ≤ 2) (h0 : 0 < l.length) (hz : l.length = 2 → (l.getD 0 0).toNat ≠ 48) (hd : ∀ j, j < l.length → dig (l.getD j 0) = true) : pn l = some (pv l l.length) := by
  match l, hl, h0 with
  | [a], _, _ =>
    have : dig a = true := hd 0 (by simp)
    simp [pn, pv, this]
  | [a, b], _, _ =>
    have h1 : dig a = true := hd 0 (by simp)
    have h2 : dig b = true := hd 1 (by simp)
    have h3 : a.toNat ≠ 48 := hz rfl
    simp [pn, pv, h1, h2, h3]
theorem pv_succ {l : List UInt8} {k : Nat} (hk : k < 2) : pv l (k + 1) = pv l k * 10 + ((l.getD k 0).toNat - 48) := by
  obtain rfl | rfl : k = 0 ∨ k = 1 := by omega
  · simp [pv]
  · simp [pv]
set_option maxHeartbeats 1000000 in
theorem pnum_any (l : List UInt8) (hl : l.length ≤ 9223372036854775807) (w : World) : Calls Tryz.prog 132 #[.string (str l)] w fun e w' => e = .returned (pnA (pn l)) ∧ w' = w := by
  have hs := str_size l
  have hat := str_at l
  have HAT := Lib.hid hat
  obtain ⟨S, hS⟩ : ∃ S, S = str l := ⟨_, rfl⟩
  rw [← hS] at hs HAT ⊢
  clear hat
  by_cases h0 : l.length = 0
  · obtain rfl : l = [] := List.eq_nil_of_length_eq_zero h0
    rw [show pnA (pn []) = .tuple #[.int .i64 0, .bool false] from rfl]
    rw [h0] at hs
    clear HAT hS h0
    go_enter Tryz.func132, Tryz.ntmps132
    go_wp2
    go_ret2
    exact ⟨rfl, rfl⟩
  by_cases h3 : 2 < l.length
  · have hp : pn l = none := by
      match l, h3 with
      | a :: b :: c :: r, _ => rfl
    rw [hp]
    rw [show pnA none = .tuple #[.int .i64 0, .bool false] from rfl]
    have hi1 : ¬ (S.size : Int) < 1 := by omega
    have hi2 : (2 : Int) < (S.size : Int) := by omega
    clear HAT hS hp
    go_enter Tryz.func132, Tryz.ntmps132
    go_wp2
    go_ret2
    exact ⟨rfl, rfl⟩
  have hi1 : ¬ (S.size : Int) < 1 := by omega
  have hi2 : ¬ (2 : Int) < (S.size : Int) := by omega
  by_cases hz : l.length = 2 ∧ (l.getD 0 0).toNat = 48
  · have hp : pn l = none := by
      match l, hz with
      | [a, b], hz => have : a.toNat = 48 := hz.2; simp [pn, this]
    rw [hp]
    rw [show pnA none = .tuple #[.int .i64 0, .bool false] from rfl]
    have hi3 : (S.size : Int) = 2 := by omega
    have hb : ∀ h : 0 < S.size, (S[0]'h).toNat = 48 := fun h => by rw [HAT.out 0 h]; exact hz.2
    clear HAT hS hp
    go_enter Tryz.func132, Tryz.ntmps132
    go_wp2
    go_ret2
    exact ⟨rfl, rfl⟩
  · obtain ⟨n, hn⟩ : ∃ n, n = l.length := ⟨_, rfl⟩
    have h12 : n = 1 ∨ n = 2 := by omega
    obtain ⟨b0, hb00⟩ : ∃ b0, b0 = l.getD 0 0 := ⟨_, rfl⟩
    rw [← hb00] at hz
    rw [← hn] at hz h0 h3 hs
    have HZ := Lib.hid hz
    have HN := Lib.hid hn
    have HB0 := Lib.hid hb00
    have HL := Lib.hid hl
    clear hz hn hb00 hl hS
    rcases h12 with rfl | rfl
    · have hi3 : (S.size : Int) = 1 := by omega
      have hb0 : ∀ h : 0 < S.size, S[0]'h = b0 := fun h => by rw [HAT.out 0 h]; exact HB0.out.symm
      clear h0 h3 hs hi1 hi2
      go_enter Tryz.func132, Tryz.ntmps132
      go_wp2
      clear hb0
      go_loop [26, 4] (fun i n => pnRel l i n) (fun i _ => 2 - (intOf i).toNat)
      case atStart => exact ⟨0, rfl, Nat.zero_le _, rfl, fun j hj => absurd hj (Nat.not_lt_zero j)⟩
      case round =>
        obtain ⟨k, rfl, hk, rfl, hd⟩ := hrel
        rw [← HN.out] at hk
        have HD := Lib.hid hd
        clear hd
        by_cases hkn : k < 1
        · have h1 : (k : Int) < 1 := by omega
          have hks : k < S.size := by omega
          obtain ⟨b, hb⟩ : ∃ b, b = l.getD k 0 := ⟨_, rfl⟩
          have hbk : ∀ h : k < S.size, S[k]'h = b := fun h => by rw [HAT.out k h]; exact hb.symm
          have HB := Lib.hid hb
          have hpv := pv_succ (l := l) (k := k) (by omega)
          rw [← hb] at hpv
          have hpb : pv l k ≤ 99 := by
            unfold pv
            split
            · omega
            · split
              · have := (l.getD 0 0).toNat_lt
                have h2 := HD.out 0 (by omega)
                rw [dig_iff] at h2
                omega
              · omega
          obtain ⟨p, hp⟩ : ∃ p, p = pv l k := ⟨_, rfl⟩
          rw [← hp] at hpv hpb ⊢
          have HPV := Lib.hid hpv
          have HP := Lib.hid hp
          clear hb hpv hp
          cases hdb : dig b
          · have hpn : pn l = none := pn_none (k := k) (by rw [← HN.out]; omega) (by rw [← HN.out]; omega) (by rw [← HB.out]; exact hdb)
            have hdd : ¬ (48 ≤ b.toNat ∧ b.toNat ≤ 57) := fun e => by rw [(dig_iff b).2 e] at hdb; cases hdb
            have hpn' := Lib.hid hpn
            clear hpn hdb
            by_cases hlt : b.toNat < 48
            · have hx : (b.toNat : Int) < 48 := by omega
              go_wp2
              go_ret2
              exact ⟨by rw [hpn'.out]; rfl, rfl⟩
            · have hx : ¬ (b.toNat : Int) < 48 := by omega
              have hy : (57 : Int) < (b.toNat : Int) := by omega
              go_wp2
              go_ret2
              exact ⟨by rw [hpn'.out]; rfl, rfl⟩
          · have h2 := (dig_iff b).1 hdb
            have hx : ¬ (b.toNat : Int) < 48 := by omega
            have hy : ¬ (57 : Int) < (b.toNat : Int) := by omega
            have hlb := b.toNat_lt
            have RR := Lib.hid (show pnRel l (.int .i64 ((k + 1 : Nat) : Int)) (.int .i64 ((p * 10 + (b.toNat - 48) : Nat) : Int)) from ⟨k + 1, rfl, by rw [← HN.out]; omega, by rw [HPV.out], fun j hj => by
              rcases Nat.lt_or_ge j k with h | h
              · exact HD.out j h
              · obtain rfl : j = k := by omega
                rw [← HB.out]; exact hdb⟩)
            clear hdb
            have e9 : (p : Int) * 10 + ((b.toNat : Int) - 48) = ((p * 10 + (b.toNat - 48) : Nat) : Int) := by omega
            obtain ⟨q, hq⟩ : ∃ q, q = p * 10 + (b.toNat - 48) := ⟨_, rfl⟩
            rw [← hq] at e9 RR
            clear hq
            go_wp2
            go_roundw
            case rel => exact RR.out
            case measure => simp [intOf]; omega
        · obtain rfl : k = 1 := by omega
          have hpn : pn l = some (pv l 1) := by
            have := pn_some (l := l) (by rw [← HN.out]; omega) (by rw [← HN.out]; omega) (by rw [← HN.out]; intro e; cases e) (by rw [← HN.out]; exact HD.out)
            rw [← HN.out] at this
            exact this
          have hpn' := Lib.hid hpn
          clear hpn
          go_wp2
          go_ret2
          exact ⟨by rw [hpn'.out]; rfl, rfl⟩
    · have hi3 : (S.size : Int) = 2 := by omega
      have hb0 : ∀ h : 0 < S.size, S[0]'h = b0 := fun h => by rw [HAT.out 0 h]; exact HB0.out.symm
      have HNE := Lib.hid (show b0.toNat = 48 → False from fun e => HZ.out ⟨rfl, e⟩)
      have hne : ¬ (b0.toNat : Int) = 48 := fun e => HNE.out (by omega)
      clear h0 h3 hs hi1 hi2
      go_enter Tryz.func132, Tryz.ntmps132
      go_wp2
      clear hb0
      go_loop [26, 4] (fun i n => pnRel l i n) (fun i _ => 2 - (intOf i).toNat)
      case atStart => exact ⟨0, rfl, Nat.zero_le _, rfl, fun j hj => absurd hj (Nat.not_lt_zero j)⟩
      case round =>
        obtain ⟨k, rfl, hk, rfl, hd⟩ := hrel
        rw [← HN.out] at hk
        have HD := Lib.hid hd
        clear hd
        by_cases hkn : k < 2
        · have h1 : (k : Int) < 2 := by omega
          have hks : k < S.size := by omega
          obtain ⟨b, hb⟩ : ∃ b, b = l.getD k 0 := ⟨_, rfl⟩
          have hbk : ∀ h : k < S.size, S[k]'h = b := fun h => by rw [HAT.out k h]; exact hb.symm
          have HB := Lib.hid hb
          have hpv := pv_succ (l := l) (k := k) (by omega)
          rw [← hb] at hpv
          have hpb : pv l k ≤ 99 := by
            unfold pv
            split
            · omega
            · split
              · have := (l.getD 0 0).toNat_lt
                have h2 := HD.out 0 (by omega)
                rw [dig_iff] at h2
                omega
              · omega
          obtain ⟨p, hp⟩ : ∃ p, p = pv l k := ⟨_, rfl⟩
          rw [← hp] at hpv hpb ⊢
          have HPV := Lib.hid hpv
          have HP := Lib.hid hp
          clear hb hpv hp
          cases hdb : dig b
          · have hpn : pn l = none := pn_none (k := k) (by rw [← HN.out]; omega) (by rw [← HN.out]; omega) (by rw [← HB.out]; exact hdb)
            have hdd : ¬ (48 ≤ b.toNat ∧ b.toNat ≤ 57) := fun e => by rw [(dig_iff b).2 e] at hdb; cases hdb
            have hpn' := Lib.hid hpn
            clear hpn hdb
            by_cases hlt : b.toNat < 48
            · have hx : (b.toNat : Int) < 48 := by omega
              go_wp2
              go_ret2
              exact ⟨by rw [hpn'.out]; rfl, rfl⟩
            · have hx : ¬ (b.toNat : Int) < 48 := by omega
              have hy : (57 : Int) < (b.toNat : Int) := by omega
              go_wp2
              go_ret2
              exact ⟨by rw [hpn'.out]; rfl, rfl⟩
          · have h2 := (dig_iff b).1 hdb
            have hx : ¬ (b.toNat : Int) < 48 := by omega
            have hy : ¬ (57 : Int) < (b.toNat : Int) := by omega
            have hlb := b.toNat_lt
            have RR := Lib.hid (show pnRel l (.int .i64 ((k + 1 : Nat) : Int)) (.int .i64 ((p * 10 + (b.toNat - 48) : Nat) : Int)) from ⟨k + 1, rfl, by rw [← HN.out]; omega, by rw [HPV.out], fun j hj => by
              rcases Nat.lt_or_ge j k with h | h
              · exact HD.out j h
              · obtain rfl : j = k := by omega
                rw [← HB.out]; exact hdb⟩)
            clear hdb
            have e9 : (p : Int) * 10 + ((b.toNat : Int) - 48) = ((p * 10 + (b.toNat - 48) : Nat) : Int) := by omega
            obtain ⟨q, hq⟩ : ∃ q, q = p * 10 + (b.toNat - 48) := ⟨_, rfl⟩
            rw [← hq] at e9 RR
            clear hq
            go_wp2
            go_roundw
            case rel => exact RR.out
            case measure => simp [intOf]; omega
        · obtain rfl : k = 2 := by omega
          have hpn : pn l = some (pv l 2) := by
            have := pn_some (l := l) (by rw [← HN.out]; omega) (by rw [← HN.out]; omega) (by rw [← HN.out, ← HB0.out]; intro _ e; exact HNE.out e) (by rw [← HN.out]; exact HD.out)
            rw [← HN.out] at this
            exact this
          have hpn' := Lib.hid hpn
          clear hpn
          go_wp2
          go_ret2
          exact ⟨by rw [hpn'.out]; rfl, rfl⟩
end Go.Proofs.YthfjahagmfgfeaaGreatDoor.Cr
