/- Texts that are cut and split at a sign; the library's Cut and Split by contract. -/
import Derived.Test.YthfjahagmfgfeaaGreatDoorKCd
import Derived.Test.YthfjahagmfgfeaaGreatDoorKCa
import Derived.Test.YthfjahagmfgfeaaGreatDoorSp
import Derived.Lib.SplitLaws
namespace Go.Proofs.YthfjahagmfgfeaaGreatDoor.Cr
open Go Go.RowKit
set_option linter.unusedVariables false
set_option linter.unusedSimpArgs false
/-- A text up to the first such sign, what is behind it, whether it is there. -/
def cutL (c : UInt8) : List UInt8 → List UInt8 × List UInt8 × Bool
  | [] => ([], [], false)
  | b :: l => if b = c then ([], l, true) else (b :: (cutL c l).1, (cutL c l).2.1, (cutL c l).2.2)
/-- A text at each such sign. -/
def splitL (c : UInt8) : List UInt8 → List (List UInt8)
  | [] => [[]]
  | b :: l => if b = c then [] :: splitL c l else match splitL c l with
    | [] => [[b]]
    | x :: xs => (b :: x) :: xs
theorem index_cons (b c : UInt8) (l : List UInt8) : Lib.index (b :: l) [c] = if b = c then 0 else if Lib.index l [c] = -1 then -1 else Lib.index l [c] + 1 := by
  rw [Lib.index]
  by_cases h : b = c
  · subst h; simp [List.isPrefixOf]
  · have h2 : (c == b) = false := by simpa using fun e => h e.symm
    simp [List.isPrefixOf, h2, h]
theorem index_nil (c : UInt8) : Lib.index [] [c] = -1 := by simp [Lib.index]
theorem cutL_index (c : UInt8) : ∀ l, (Lib.index l [c] = -1 ∧ cutL c l = (l, [], false)) ∨ ∃ i : Nat, Lib.index l [c] = (i : Int) ∧ cutL c l = (l.take i, l.drop (i + 1), true)
  | [] => Or.inl ⟨index_nil c, rfl⟩
  | b :: l => by
    rw [index_cons]
    by_cases h : b = c
    · exact Or.inr ⟨0, by rw [if_pos h]; rfl, by simp [cutL, h]⟩
    · rw [if_neg h]
      rcases cutL_index c l with ⟨h1, h2⟩ | ⟨i, h1, h2⟩
      · left
        refine ⟨by rw [if_pos h1], ?_⟩
        simp [cutL, h, h2]
      · right
        refine ⟨i + 1, by rw [if_neg (by omega), h1]; rfl, ?_⟩
        simp [cutL, h, h2]
theorem cut_eq (c : UInt8) (l : List UInt8) : Lib.cut l [c] = cutL c l := by
  unfold Lib.cut
  rcases cutL_index c l with ⟨h1, h2⟩ | ⟨i, h1, h2⟩
  · rw [h1, h2, if_neg (by omega)]
  · rw [h1, h2, if_pos (by omega)]
    simp
theorem splitL_cut (c : UInt8) : ∀ l, splitL c l = if (cutL c l).2.2 = true then (cutL c l).1 :: splitL c (cutL c l).2.1 else [l]
  | [] => rfl
  | b :: l => by
    by_cases h : b = c
    · simp [splitL, cutL, h]
    · have ih := splitL_cut c l
      rw [splitL, cutL, if_neg h, if_neg h, ih]
      by_cases h2 : (cutL c l).2.2 = true
      · simp [h2]
      · simp [h2]
theorem count_cut (c : UInt8) : ∀ l : List UInt8, l.count c = if (cutL c l).2.2 = true then 1 + (cutL c l).2.1.count c else 0
  | [] => rfl
  | b :: l => by
    by_cases h : b = c
    · simp [cutL, h, Nat.add_comm]
    · have ih := count_cut c l
      rw [cutL, if_neg h, List.count_cons_of_ne h, ih]
theorem splitK_eq (c : UInt8) : ∀ (k : Nat) (l : List UInt8), l.count c = k → Lib.splitK [c] 0 k l = splitL c l
  | 0, l, h => by
    rw [splitL_cut]
    have h2 := count_cut c l
    rw [h] at h2
    by_cases h3 : (cutL c l).2.2 = true
    · rw [if_pos h3] at h2; omega
    · rw [if_neg h3]; rfl
  | k + 1, l, h => by
    have h2 := count_cut c l
    rw [splitL_cut]
    rw [h] at h2
    by_cases h3 : (cutL c l).2.2 = true
    · rw [if_pos h3] at h2 ⊢
      have ih := splitK_eq c k (cutL c l).2.1 (by omega)
      rcases cutL_index c l with ⟨h4, h5⟩ | ⟨i, h4, h5⟩
      · rw [h5] at h3; cases h3
      · rw [h5] at ih ⊢
        dsimp only at ih ⊢
        rw [Lib.splitK, if_neg (by rw [h4, beq_iff_eq]; omega), h4]
        simp only [Int.toNat_natCast, Nat.add_zero, List.length_singleton]
        rw [ih]
    · rw [if_neg h3] at h2; omega
theorem str_data (l : List UInt8) : (str l).data.toList = l := by simp [str]
theorem str_of (s : ByteArray) : str s.data.toList = s := by simp [str]
theorem splitL_len (c : UInt8) (l : List UInt8) : (splitL c l).length = l.count c + 1 := by
  induction l with
  | nil => rfl
  | cons b l ih =>
    rw [splitL]
    by_cases h : b = c
    · simp [h, ih]
    · rw [if_neg h, List.count_cons_of_ne h]
      cases hq : splitL c l with
      | nil => rw [hq] at ih; simp at ih
      | cons x xs => rw [hq] at ih; simpa using ih
def strVs (L : List (List UInt8)) : List Value := L.map fun x => .string (str x)
theorem split_any (c : UInt8) (l : List UInt8) (hl : l.length < 4294967281) (w : World) (hT : CT w) : Calls Tryz.prog 66 #[.string (str l), .string ⟨#[c]⟩] w fun e w' =>
    e = .returned (.slice (some ⟨w.heap.size, 0, none⟩) (splitL c l).length (splitL c l).length) ∧ w' = w.alloc (.cells (strVs (splitL c l)).toArray 9) := by
  obtain ⟨m, hm⟩ := hT.len
  refine (Tryz.strings_Split (str l) ⟨#[c]⟩ m w (by rw [str_size]; exact hl) hm (Nat.le_refl 1)).mono ?_
  rintro e w' ⟨rfl, rfl⟩
  have hc : Lib.countB (str l) ⟨#[c]⟩ = l.count c := by
    show Lib.count (str l).data.toList [c] = _
    rw [str_data, Lib.count_one]
  have hd := Lib.splitB_data ⟨#[c]⟩ 0 (Lib.countB (str l) ⟨#[c]⟩) (str l)
  rw [hc, str_data] at hd
  have hk := splitK_eq c (l.count c) l rfl
  rw [show (⟨#[c]⟩ : ByteArray).data.toList = [c] from rfl, hk] at hd
  rw [hc, splitL_len]
  refine ⟨rfl, ?_⟩
  congr 2
  unfold strVs
  rw [← hd, List.map_map]
  congr 1
theorem cut_any (c : UInt8) (l : List UInt8) (hl : l.length < 4294967281) (w : World) (hT : CT w) : Calls Tryz.prog 113 #[.string (str l), .string ⟨#[c]⟩] w fun e w' =>
    e = .returned (.tuple #[.string (str (cutL c l).1), .string (str (cutL c l).2.1), .bool (cutL c l).2.2]) ∧ ∃ n, w' = w.drewN n := by
  obtain ⟨m, hm⟩ := hT.len
  refine (Tryz.strings_Cut (str l) ⟨#[c]⟩ m w (by rw [str_size]; exact hl) hm).mono ?_
  rintro e w' ⟨rfl, h⟩
  refine ⟨?_, h⟩
  rw [str_data, show (⟨#[c]⟩ : ByteArray).data.toList = [c] from rfl, cut_eq]
  rfl
theorem cutL_len (c : UInt8) (l : List UInt8) : (cutL c l).1.length ≤ l.length ∧ (cutL c l).2.1.length ≤ l.length := by
  rcases cutL_index c l with ⟨h1, h2⟩ | ⟨i, h1, h2⟩
  · rw [h2]; exact ⟨Nat.le_refl _, Nat.zero_le _⟩
  · rw [h2]; exact ⟨by simp; omega, by simp⟩
end Go.Proofs.YthfjahagmfgfeaaGreatDoor.Cr
