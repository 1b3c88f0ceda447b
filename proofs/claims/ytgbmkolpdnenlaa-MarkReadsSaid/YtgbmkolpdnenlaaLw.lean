/- The reference's eight bytes as a number (foliotref06.low). -/
import Derived.Test.YtgbmkolpdnenlaaEi
import Derived.Test.YtgbmkolpdnenlaaMc
namespace Go.Proofs.Ytgbmkolpdnenlaa.Dk
open Go Go.RowKit
set_option linter.unusedVariables false
set_option linter.unusedSimpArgs false
def hiN : List UInt8 → Nat
  | [] => 0
  | x :: L => hiN L * 256 + x.toNat
theorem hiN_lt : ∀ L : List UInt8, hiN L < 256 ^ L.length
  | [] => by simp [hiN]
  | x :: L => by
    have ih := hiN_lt L
    have hx := x.toNat_lt
    rw [hiN, List.length_cons, Nat.pow_succ]
    have : hiN L * 256 ≤ (256 ^ L.length - 1) * 256 := Nat.mul_le_mul_right _ (by omega)
    have h1 : 0 < 256 ^ L.length := Nat.pow_pos (by decide)
    have h2 : (256 ^ L.length - 1) * 256 = 256 ^ L.length * 256 - 256 := by rw [Nat.sub_mul]
    omega
theorem hiN_drop (L : List UInt8) {k : Nat} (h : k < L.length) : hiN (L.drop k) = hiN (L.drop (k + 1)) * 256 + (L.getD k 0).toNat := by
  rw [List.drop_eq_getElem_cons h]
  simp [hiN, List.getD, h]
theorem word_cons (b : UInt8) (t : List UInt8) : ∀ k, wordN (b :: t) 0 (k + 1) = wordN t 0 k * 256 + b.toNat
  | 0 => by simp [wordN]
  | k + 1 => by
    have ih := word_cons b t k
    have e1 : wordN (b :: t) 0 (k + 2) = wordN (b :: t) 0 (k + 1) + ((b :: t).getD (0 + (k + 1)) 0).toNat * 256 ^ (k + 1) := rfl
    have e2 : wordN t 0 (k + 1) = wordN t 0 k + (t.getD (0 + k) 0).toNat * 256 ^ k := rfl
    have e3 : (b :: t).getD (0 + (k + 1)) 0 = t.getD (0 + k) 0 := by simp [List.getD]
    rw [e1, ih, e2, e3, Nat.pow_succ, Nat.add_mul, Nat.mul_assoc]
    omega
theorem hiN_word : ∀ L : List UInt8, wordN L 0 L.length = hiN L
  | [] => rfl
  | b :: t => by rw [List.length_cons, word_cons, hiN_word t]; rfl
theorem word_part (l : List UInt8) (p : Nat) : ∀ k, p + k ≤ l.length → wordN ((l.drop p).take k) 0 k = wordN l p k := by
  intro k hk
  have h : ∀ j, j ≤ k → wordN ((l.drop p).take k) 0 j = wordN l p j := by
    intro j
    induction j with
    | zero => intro _; rfl
    | succ j ih =>
      intro hj
      unfold wordN
      rw [ih (by omega)]
      congr 3
      simp only [List.getD_eq_getElem?_getD, Nat.zero_add, List.getElem?_take, List.getElem?_drop]
      rw [if_pos (by omega)]
  exact h k (Nat.le_refl _)
def LwRel (w : World) (L : List UInt8) (x u : Value) (wr : World) : Prop := ∃ k : Nat, u = .int .i64 ((k : Int) - 1) ∧ k ≤ L.length ∧ x = .int .u64 ((hiN (L.drop k) : Nat) : Int) ∧ wr = w
theorem str_at' (L : List UInt8) {k : Nat} (h : k < L.length) (h' : k < (str L).size) : (str L)[k] = L.getD k 0 := by
  show (str L).data[k] = _
  simp [str, List.getD, h]
set_option maxRecDepth 100000 in
set_option maxHeartbeats 1600000 in
theorem low8_any (L : List UInt8) (hL : L.length = 8) (w : World) : Calls Try.prog 69 #[.string (str L)] w fun e w' => e = .returned (.int .u64 ((wordN L 0 8 : Nat) : Int)) ∧ w = w' := by
  have hsz := wstr_size L
  have HW := Lib.hid (show wordN L 0 8 = hiN L by rw [← hiN_word, hL])
  rw [hL] at hsz
  go_enter Try.func69, Try.ntmps69
  go_wp2_with fail
  go_loopw [3, 4] (fun x u wr => LwRel w L x u wr) (fun _ u _ => (intOf u + 1).toNat)
  case atStart => exact ⟨8, rfl, by omega, by rw [List.drop_eq_nil_of_le (by omega)]; rfl, rfl⟩
  case round =>
    obtain ⟨k, rfl, hk, rfl, hwr⟩ := hrel
    obtain rfl := hwr.symm
    by_cases h0 : 0 < k
    · obtain ⟨j, rfl⟩ : ∃ j, k = j + 1 := ⟨k - 1, by omega⟩
      have hd := hiN_drop L (show j < L.length by omega)
      have hlt := hiN_lt (L.drop (j + 1))
      have hp : 256 ^ (L.drop (j + 1)).length ≤ 256 ^ 7 := Nat.pow_le_pow_right (by decide) (by rw [List.length_drop]; omega)
      have hp7 : (256 : Nat) ^ 7 = 72057594037927936 := by decide
      have hat := fun h' => str_at' L (show j < L.length by omega) h'
      have b8 := (L.getD j 0).toNat_lt
      have j1 : (j : Int) < 8 := by omega
      have hx0 : hiN (L.drop (j + 1)) < 72057594037927936 := by omega
      generalize hiN (L.drop (j + 1)) = x0 at *
      generalize L.getD j 0 = y at *
      have HD := Lib.hid hd
      clear hd hlt hp hp7
      rw [show ((j + 1 : Nat) : Int) - 1 = (j : Int) by omega]
      go_wp2_with fail
      refine ⟨⟨j, rfl, by omega, ?_, rfl⟩, by simp [intOf]⟩
      rw [HD.out]
      congr 1
    · obtain rfl : k = 0 := by omega
      rw [show ((0 : Nat) : Int) - 1 = -1 from rfl]
      go_wp2_with fail
      go_ret
      exact ⟨by rw [HW.out]; rfl, rfl⟩
end Go.Proofs.Ytgbmkolpdnenlaa.Dk
