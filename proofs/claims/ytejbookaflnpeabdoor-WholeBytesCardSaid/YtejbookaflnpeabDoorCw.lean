/- CRC-32 over parts: the walks of crcByte and CRC. -/
import Derived.Test.YtejbookaflnpeabDoorCp
import Derived.Test.YtejbookaflnpeabDoorPs
namespace Go.Proofs.YtejbookaflnpeabDoor
open Go Go.RowKit
set_option linter.unusedVariables false

theorem ret_u32 {a b : Nat} (h : a = b) : Ending.returned (.int .u32 ((a : Nat) : Int)) = .returned (.int .u32 ((b : Nat) : Int)) := by rw [h]
def CbRel (c : Nat) (v u : Value) : Prop := ∃ k : Nat, u = .int .i64 (k : Int) ∧ k ≤ 8 ∧ v = .int .u32 ((crcN k c : Nat) : Int)
theorem crc1_walk {n : Nat} (h : n < 4294967296) : bits BinOp.xor IntKind.u32 ((n : Int) / 2) (3988292384 * bits BinOp.and IntKind.u32 (n : Int) 1 % 4294967296) = ((crc1 n : Nat) : Int) := by
  have h1 : bits BinOp.and IntKind.u32 (n : Int) 1 = ((n % 2 : Nat) : Int) := by
    have := u32_and_nat n 1 h (by decide)
    rw [show ((1 : Nat) : Int) = 1 from rfl] at this
    rw [this, Nat.and_one_is_mod]
  have h2 : (n : Int) / 2 = ((n / 2 : Nat) : Int) := by simp
  have h4 : n % 2 < 2 := Nat.mod_lt _ (by decide)
  have h3 : 3988292384 * ((n % 2 : Nat) : Int) % 4294967296 = ((3988292384 * (n % 2) : Nat) : Int) := by omega
  rw [h1, h2, h3, u32_xor_nat _ _ (by omega) (by omega)]
  rfl
set_option maxHeartbeats 1000000 in
theorem crcByte_any (c : Nat) (hc : c < 4294967296) (x : UInt8) (w : World) :
    Calls Tryd.prog 30 #[.int .u32 (c : Int), .int .u8 (x.toNat : Int)] w fun e w' => e = .returned (.int .u32 ((crcB c x : Nat) : Int)) ∧ w = w' := by
  have hx := x.toNat_lt
  have hz : c ^^^ x.toNat < 4294967296 := Nat.xor_lt_two_pow (n := 32) hc (by omega)
  have e1 : bits BinOp.xor IntKind.u32 (c : Int) (x.toNat : Int) = ((c ^^^ x.toNat : Nat) : Int) := u32_xor_nat _ _ hc (by omega)
  obtain ⟨z, hzz⟩ : ∃ z, z = c ^^^ x.toNat := ⟨_, rfl⟩
  have HZ := Lib.hid hzz
  rw [← hzz] at e1 hz
  clear hzz
  go_enter Tryd.func30, Tryd.ntmps30
  go_wp2
  go_loop [0, 9] (fun v u => CbRel z v u) (fun _ u => 8 - (intOf u).toNat)
  case atStart => exact ⟨0, rfl, Nat.zero_le _, by first | rfl | (rw [e1]; rfl)⟩
  case round =>
    obtain ⟨k, rfl, hk, rfl⟩ := hrel
    have hlt := crcN_lt k hz
    have hs := crcN_succ k z
    obtain ⟨n, hn⟩ : ∃ n, n = crcN k z := ⟨_, rfl⟩
    rw [← hn] at hlt hs
    rw [← hn]
    have HS := Lib.hid hs
    have HN := Lib.hid hn
    clear hs e1 hn
    by_cases h8 : k < 8
    · go_wp2
      go_round
      case rel => exact ⟨k + 1, by go_num, by omega, by rw [crc1_walk hlt, HS.out]⟩
      case measure => simp [intOf]; omega
    · obtain rfl : k = 8 := by omega
      go_wp2
      go_ret
      exact ⟨ret_u32 (by rw [HN.out, HZ.out]; rfl), rfl⟩

/-- A slice that reads as these bytes. -/
def Bs (w : World) (v : Value) (xs : List UInt8) : Prop :=
  ∃ ao c, v = .slice ao xs.length c ∧ xs.length ≤ c ∧ (ao = none → xs.length = 0) ∧ ∀ a, ao = some a → ∀ j u, (bvs xs)[j]? = some u → w.cell? (a.add j) = some u
/-- A slice of such slices. -/
def Pt (w : World) (v : Value) (L : List (Value × List UInt8)) : Prop :=
  ∃ ao c, v = .slice ao L.length c ∧ (ao = none → L.length = 0) ∧ ∀ a, ao = some a → ∀ j p, L[j]? = some p → w.cell? (a.add j) = some p.1 ∧ Bs w p.1 p.2
theorem cell_below {w w' : World} {B : Nat} (hB : Below B w w') (hs : w.heap.size ≤ B) {a : Addr} {u : Value} (h : w.cell? a = some u) : w'.cell? a = some u := by
  have := World.block_lt_of_cell? w a h
  rw [World.cell?_of_block (w := w) (hB.block a.block (by omega))]
  exact h
theorem Bs.below {w w' : World} {v : Value} {xs : List UInt8} {B : Nat} (h : Bs w v xs) (hB : Below B w w') (hs : w.heap.size ≤ B) : Bs w' v xs := by
  obtain ⟨ao, c, hv, hc, hno, h1⟩ := h
  exact ⟨ao, c, hv, hc, hno, fun a ha j u hu => cell_below hB hs (h1 a ha j u hu)⟩
theorem Pt.below {w w' : World} {v : Value} {L : List (Value × List UInt8)} {B : Nat} (h : Pt w v L) (hB : Below B w w') (hs : w.heap.size ≤ B) : Pt w' v L := by
  obtain ⟨ao, c, hv, hno, h1⟩ := h
  exact ⟨ao, c, hv, hno, fun a ha j p hj => ⟨cell_below hB hs (h1 a ha j p hj).1, (h1 a ha j p hj).2.below hB hs⟩⟩
theorem Bs.src {w w' : World} {v : Value} {xs : List UInt8} {b B : Nat} (h : Bs w v xs) (hB : Below B w w') (hs : w.heap.size ≤ B) (hb : w.heap.size ≤ b) : Src w' b v xs := by
  obtain ⟨ao, c, hv, hc, hno, h1⟩ := h
  refine ⟨ao, c, hv, hc, hno, fun a ha hp => ?_⟩
  have h0 := h1 a ha 0 (bv xs[0]) (by simp [bvs, hp])
  have hl := World.block_lt_of_cell? w _ h0
  rw [add_block] at hl
  have := hB.size
  exact ⟨by omega, by omega, fun j u hu => cell_below hB hs (h1 a ha j u hu)⟩
theorem Pt.parts {w w' : World} {v : Value} {L : List (Value × List UInt8)} {b B : Nat} (h : Pt w v L) (hB : Below B w w') (hs : w.heap.size ≤ B) (hb : w.heap.size ≤ b) : Parts w' b v L := by
  obtain ⟨ao, c, hv, hno, h1⟩ := h
  refine ⟨ao, c, hv, hno, fun a ha hp => ?_⟩
  have h0 := (h1 a ha 0 L[0] (by simp)).1
  have hl := World.block_lt_of_cell? w _ h0
  rw [add_block] at hl
  have := hB.size
  exact ⟨by omega, by omega, fun j p hj => ⟨cell_below hB hs (h1 a ha j p hj).1, (h1 a ha j p hj).2.src hB hs hb⟩⟩

def CoRel (L : List (Value × List UInt8)) (v u : Value) : Prop := ∃ k : Nat, u = .int .i64 (k : Int) ∧ k ≤ L.length ∧ v = .int .u32 ((crcL 4294967295 (bytesOf (L.take k)) : Nat) : Int)
def CiRel (c : Nat) (xs : List UInt8) (v u : Value) : Prop := ∃ k : Nat, u = .int .i64 (k : Int) ∧ k ≤ xs.length ∧ v = .int .u32 ((crcL c (xs.take k) : Nat) : Int)
theorem not_u32 {n : Nat} (h : n < 4294967296) : bits BinOp.xor IntKind.u32 IntKind.u32.max (n : Int) = ((4294967295 - n : Nat) : Int) := by
  show IntKind.u32.wrap ((BitVec.ofInt 32 IntKind.u32.max ^^^ BitVec.ofInt 32 (n : Int)).toNat : Int) = _
  have h1 : BitVec.ofInt 32 IntKind.u32.max = BitVec.allOnes 32 := by decide
  rw [h1, BitVec.allOnes_xor, BitVec.toNat_not, ofInt_u32 n h, IntKind.wrap_u32]
  omega
theorem bytesOf_take (L : List (Value × List UInt8)) (k : Nat) (h : k < L.length) : bytesOf (L.take (k + 1)) = bytesOf (L.take k) ++ (L[k]).2 := by
  rw [List.take_succ_eq_append_getElem h]
  unfold bytesOf
  rw [List.map_append, List.flatten_append]
  simp
set_option maxHeartbeats 1000000 in
theorem crc_any {w : World} {v : Value} {L : List (Value × List UInt8)} (h : Pt w v L) (hL : L.length ≤ 9223372036854775807) (hX : ∀ p ∈ L, p.2.length ≤ 9223372036854775807) :
    Calls Tryd.prog 11 #[v] w fun e w' => e = .returned (.int .u32 ((crcOf (bytesOf L) : Nat) : Int)) ∧ w = w' := by
  obtain ⟨ao, c, rfl, hno, hs⟩ := h
  have HS0 := Lib.hid hs
  clear hs
  go_enter Tryd.func11, Tryd.ntmps11
  go_wp2
  go_loop [3, 10] (fun v u => CoRel L v u) (fun _ u => L.length - (intOf u).toNat)
  case atStart => exact ⟨0, rfl, Nat.zero_le _, rfl⟩
  case round =>
    obtain ⟨k, rfl, hk, rfl⟩ := hrel
    have hlt := crcL_lt (bytesOf (L.take k)) (c := 4294967295) (by decide)
    obtain ⟨n, hn⟩ : ∃ n, n = crcL 4294967295 (bytesOf (L.take k)) := ⟨_, rfl⟩
    rw [← hn] at hlt ⊢
    have HN := Lib.hid hn
    clear hn
    by_cases hkl : k < L.length
    · obtain ⟨ad, rfl⟩ : ∃ ad, ao = some ad := by
        cases ao with
        | none => have := hno rfl; omega
        | some ad => exact ⟨ad, rfl⟩
      obtain ⟨p, hp⟩ : ∃ p, p = L[k] := ⟨_, rfl⟩
      obtain ⟨cell, src⟩ := HS0.out ad rfl k p (by rw [hp]; exact List.getElem?_eq_getElem hkl)
      have htk := bytesOf_take L k hkl
      rw [← hp] at htk
      have hxl := hX p (by rw [hp]; exact List.getElem_mem _)
      obtain ⟨v1, xs⟩ := p
      obtain ⟨ao1, c1, hv1, hc1, hno1, hs1⟩ := src
      dsimp only at hv1 htk cell hxl
      subst hv1
      have HT := Lib.hid htk
      have HS1 := Lib.hid hs1
      have q1 : (k : Int) < (L.length : Int) := by omega
      have q0 : (0 : Int) ≤ (k : Int) := by omega
      clear hp htk hs1
      go_wp2
      go_loop [3, 16] (fun v u => CiRel n xs v u) (fun _ u => xs.length - (intOf u).toNat)
      case atStart => exact ⟨0, rfl, Nat.zero_le _, rfl⟩
      case round =>
        obtain ⟨j, rfl, hj, rfl⟩ := hrel
        have hlt2 := crcL_lt (xs.take j) hlt
        obtain ⟨m, hm⟩ : ∃ m, m = crcL n (xs.take j) := ⟨_, rfl⟩
        rw [← hm] at hlt2 ⊢
        have HM := Lib.hid hm
        clear hm
        by_cases hjl : j < xs.length
        · obtain ⟨ad1, rfl⟩ : ∃ ad1, ao1 = some ad1 := by
            cases ao1 with
            | none => have := hno1 rfl; omega
            | some ad1 => exact ⟨ad1, rfl⟩
          have hts : crcL n (xs.take (j + 1)) = crcB m xs[j] := by
            rw [List.take_succ_eq_append_getElem hjl, crcL_append, HM.out]; rfl
          have cell1 := HS1.out ad1 rfl j (bv xs[j]) (by simp [bvs, hjl])
          unfold bv at cell1
          have C := crcByte_any m hlt2 xs[j] w
          generalize xs[j] = x at *
          have HC := Lib.hid C
          have HTS := Lib.hid hts
          have r1 : (j : Int) < (xs.length : Int) := by omega
          have r0 : (0 : Int) ≤ (j : Int) := by omega
          clear C hts
          go_wp2_with (go_at_call 30; refine HC.out.mono ?_; rintro e w' ⟨rfl, rfl⟩)
          go_round
          case rel => exact ⟨j + 1, by go_num, by omega, by rw [HTS.out]⟩
          case measure => simp [intOf]; omega
        · obtain rfl : j = xs.length := by omega
          go_wp2
          go_round
          case rel => exact ⟨k + 1, by go_num, by omega, by rw [HT.out, crcL_append, ← HN.out, HM.out, List.take_length]⟩
          case measure => simp [intOf]; omega
    · obtain rfl : k = L.length := by omega
      go_wp2
      go_ret
      refine ⟨?_, rfl⟩
      rw [List.take_length] at HN
      rw [not_u32 hlt, HN.out]
      rfl
end Go.Proofs.YtejbookaflnpeabDoor
