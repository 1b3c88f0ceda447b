/- What Fixed writes and reads. -/
import Derived.Test.YtcjnfmlpjolfpaaNf
import Derived.Test.YtcjnfmlpjolfpaaFw
namespace Go.Proofs.Ytcjnfmlpjolfpaa
open Go Go.RowKit
set_option linter.unusedVariables false

def FxRel (w : World) (b : Nat) (r : Option Nat) (xs : List UInt8) (n : Nat) (u : Value) (wr : World) : Prop :=
  ∃ (i : Nat) (r' : Option Nat), u = .int .i64 (i : Int) ∧ i ≤ 4 ∧ Wr wr b r' (xs ++ leTo n i) ∧ Fr w wr b r ∧ (r' = r ∨ ∃ g, r' = some g ∧ w.heap.size ≤ g)
set_option maxRecDepth 100000 in
set_option maxHeartbeats 1600000 in
theorem wfixed_any {w : World} {b : Nat} {r : Option Nat} {xs : List UInt8} (hw : Wr w b r xs) (n : Nat) (hn : n < 4294967296) (hsz : xs.length + 10 ≤ 140737488355328) :
    Calls Try.prog 11 #[.pointer (some ⟨b, 0, none⟩), .int .u32 (n : Int)] w fun e w' => e = .returned (.tuple #[]) ∧ Wrote w w' b r (xs ++ leTo n 4) := by
  go_enter Try.func11, Try.ntmps11
  go_wp2_with fail
  go_loopw [4, 5] (fun _ u wr => FxRel w b r xs n u wr) (fun _ u _ => 4 - (intOf u).toNat)
  case atStart => exact ⟨0, r, rfl, Nat.zero_le _, by simpa [leTo] using hw, Fr.refl w b r, Or.inl rfl⟩
  case round =>
    obtain ⟨wr0, rfl⟩ : ∃ wr0 : World, wr0 = wr := ⟨_, rfl⟩
    obtain ⟨i, r', rfl, hi, hW, hF, hr⟩ := hrel
    by_cases hi4 : i < 4
    · have hle : leTo n (i + 1) = leTo n i ++ [UInt8.ofNat (n / 256 ^ i)] := rfl
      have hll := leTo_length n i
      have ii4 : (i : Int) < 4 := by omega
      have i0 : (0 : Int) ≤ (i : Int) := by omega
      have e1 : (2 : Nat) ^ (8 * i) = 256 ^ i := by rw [Nat.pow_mul]
      have e2 : (2 : Int) ^ (8 * i) = ((256 ^ i : Nat) : Int) := by rw [← e1]; simp
      have hx : (n : Int) / 2 ^ (8 * i) % 256 = (((UInt8.ofNat (n / 256 ^ i)).toNat : Nat) : Int) := by
        rw [UInt8.toNat_ofNat', e2, ← Int.natCast_ediv]; omega
      have C := Lib.hid (byte_one hW wr0.heap.size rfl _ _ hx (by rw [List.length_append, hll]; omega))
      have HLE := Lib.hid hle
      clear e1 e2 hx hle hll hW
      go_wp2_with fail
      refine C.out.mono ?_
      rintro e w2 ⟨rfl, r2, w2W, w2F, w2r⟩
      have HW2 := Lib.hid w2W
      have HF2 := Lib.hid (hF.trans hr w2F)
      have HR2 := Lib.hid (show r2 = r ∨ ∃ g, r2 = some g ∧ w.heap.size ≤ g from by
        rcases w2r with rfl | ⟨g, rfl, hg⟩
        · exact hr
        · exact Or.inr ⟨g, rfl, Nat.le_trans hF.size hg⟩)
      clear C w2W w2F w2r hF hr
      go_wp2_with fail
      exact ⟨⟨i + 1, r2, by go_num, by omega, by rw [HLE.out, ← List.append_assoc]; exact HW2.out, HF2.out, HR2.out⟩, by simp [intOf]; omega⟩
    · obtain rfl : i = 4 := by omega
      rw [show ((4 : Nat) : Int) = 4 from rfl]
      go_wp2_with fail
      go_end0
      exact ⟨rfl, r', hW, hF, hr⟩
/-- The number that bytes are, the lowest first. -/
def rfN (L : List UInt8) : Nat → Nat
  | 0 => 0
  | j + 1 => (rfN L j + (L.getD j 0).toNat * 256 ^ j % 4294967296) % 4294967296
theorem rfN_lt (L : List UInt8) : ∀ j, rfN L j < 4294967296
  | 0 => by simp [rfN]
  | j + 1 => Nat.mod_lt _ (by decide)
def RxRel (w2 : World) (L : List UInt8) (x u : Value) (wr : World) : Prop := ∃ j : Nat, u = .int .i64 (j : Int) ∧ j ≤ L.length ∧ x = .int .u32 ((rfN L j : Nat) : Int) ∧ wr = w2
def FixPost (w : World) (b : Nat) (r : Option Nat) (xs : List UInt8) (X : List UInt8 × Nat × Int) (e : Ending) (w' : World) : Prop :=
  e = .returned (.int .u32 ((rfN X.1 X.1.length : Nat) : Int)) ∧ Rd w' b r xs X.2.1 X.2.2 ∧ Fr w w' b none
theorem nx_le (xs : List UInt8) (k : Nat) (err : Int) (n : Nat) : (nx xs k err n).1.length ≤ n := by
  unfold nx; split
  · simp
  · split <;> simp; omega
set_option maxRecDepth 100000 in
set_option maxHeartbeats 1600000 in
theorem rfixed_any {w : World} {b : Nat} {r : Option Nat} {xs : List UInt8} {k : Nat} {err : Int} (h : Rd w b r xs k err) (hsz : xs.length ≤ 140737488355328) :
    Calls Try.prog 22 #[.pointer (some ⟨b, 0, none⟩)] w (FixPost w b r xs (nx xs k err 4)) := by
  have N := Lib.hid (next_any h 4 (by decide) hsz)
  have hl := nx_le xs k err 4
  unfold FixPost
  generalize nx xs k err 4 = X at N hl ⊢
  clear h
  go_enter Try.func22, Try.ntmps22
  go_wp2_with fail
  refine N.out.mono ?_
  rintro e w2 ⟨v, rfl, ⟨ao, c, rfl, hno, hs⟩, hR, hF⟩
  have HRD := Lib.hid hR
  have HFR := Lib.hid hF
  clear N hR hF
  obtain ⟨L, k2, e2⟩ := X
  dsimp only at *
  have lI : (L.length : Int) ≤ 4 := by omega
  go_wp2_with fail
  go_loopw [3, 4, 5, 9] (fun x _ _ u wr => RxRel w2 L x u wr) (fun _ _ _ u _ => L.length - (intOf u).toNat)
  case atStart => exact ⟨0, rfl, Nat.zero_le _, rfl, rfl⟩
  case round =>
    obtain ⟨j, rfl, hj, rfl, hwr⟩ := hrel
    obtain rfl := hwr.symm
    by_cases hjl : j < L.length
    · obtain ⟨ad, rfl⟩ : ∃ ad, ao = some ad := by
        cases ao with
        | none => have := hno rfl; rw [this] at hjl; simp at hjl
        | some ad => exact ⟨ad, rfl⟩
      have cell := hs ad rfl j (bv (L.getD j 0)) (by simp [bvs, List.getD, hjl])
      unfold bv at cell
      have hn1 : rfN L (j + 1) = (rfN L j + (L.getD j 0).toNat * 256 ^ j % 4294967296) % 4294967296 := rfl
      have hlt := rfN_lt L j
      have b8 := (L.getD j 0).toNat_lt
      generalize (L.getD j 0).toNat = y at *
      generalize rfN L j = x0 at *
      have j0 : (0 : Int) ≤ (j : Int) := by omega
      have j1 : (j : Int) < (L.length : Int) := by omega
      have j4 : (j : Int) < 4 := by omega
      have HN1 := Lib.hid hn1
      clear hn1
      go_wp2_with fail
      have e1 : (2 : Nat) ^ (8 * j) = 256 ^ j := by rw [Nat.pow_mul]
      have e2 : (2 : Int) ^ (8 * j) = ((256 ^ j : Nat) : Int) := by rw [← e1]; simp
      have ex : ((x0 : Int) + (y : Int) * 2 ^ (8 * j) % 4294967296) % 4294967296 = (((x0 + y * 256 ^ j % 4294967296) % 4294967296 : Nat) : Int) := by
        rw [e2, ← Int.natCast_mul]; omega
      exact ⟨⟨j + 1, by go_num, by omega, by rw [HN1.out, ex], rfl⟩, by simp [intOf]; omega⟩
    · obtain rfl : j = L.length := by omega
      go_wp2_with fail
      go_ret
      exact ⟨rfl, HRD.out, HFR.out⟩
end Go.Proofs.Ytcjnfmlpjolfpaa
