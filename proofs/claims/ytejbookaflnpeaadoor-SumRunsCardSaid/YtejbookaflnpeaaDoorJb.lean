import Derived.Test.YtejbookaflnpeaaDoorHt
namespace Go.Proofs.YtejbookaflnpeaaDoor
open Go Go.RowKit
theorem four_set (A B : List UInt8) (k : Nat) (hk : A.length = k) (z0 z1 z2 z3 b0 b1 b2 b3 : UInt8) : ((((A ++ z0 :: z1 :: z2 :: z3 :: B).set (k + 3) b3).set (k + 2) b2).set (k + 1) b1).set k b0 = A ++ b0 :: b1 :: b2 :: b3 :: B := by
  subst hk
  simp [List.set_append_right]
/-- A row after so many of a word's bytes, the last first. -/
def jb (L : List UInt8) (i x : Nat) : Nat → List UInt8
  | 0 => L
  | t + 1 => (jb L i x t).set (4 * i + (3 - t)) (UInt8.ofNat (x / 256 ^ t))
theorem jb_length (L : List UInt8) (i x : Nat) : ∀ t, (jb L i x t).length = L.length
  | 0 => rfl
  | t + 1 => by simp [jb, jb_length L i x t]
theorem jb_4 (l : List Nat) (hl : l.length = 8) (i : Nat) (hi : i < 8) : jb (obTo l i) i (l.getD i 0) 4 = obTo l (i + 1) := by
  have h1 : (ob (l.take i)).length = 4 * i := by rw [ob_length, List.length_take]; omega
  have hs := obTo_succ l hl i hi
  obtain ⟨r, hr⟩ : ∃ r, 32 - 4 * i = r + 4 := ⟨28 - 4 * i, by omega⟩
  have hz : obTo l i = ob (l.take i) ++ 0 :: 0 :: 0 :: 0 :: List.replicate r 0 := by
    unfold obTo
    rw [hr]; rfl
  rw [← hs, hz]
  generalize ob (l.take i) = A at *
  generalize l.getD i 0 = x
  have hd : (A ++ 0 :: 0 :: 0 :: 0 :: List.replicate r (0 : UInt8)).drop (4 * i + 4) = List.replicate r 0 := by
    rw [← h1, List.drop_append]; simp
  have ht : (A ++ 0 :: 0 :: 0 :: 0 :: List.replicate r (0 : UInt8)).take (4 * i) = A := by
    rw [← h1, List.take_append_of_le_length (Nat.le_refl _), List.take_length]
  rw [hd, ht]
  have := four_set A (List.replicate r 0) (4 * i) h1 0 0 0 0 (UInt8.ofNat (x / 16777216)) (UInt8.ofNat (x / 65536)) (UInt8.ofNat (x / 256)) (UInt8.ofNat (x / 1))
  rw [Nat.div_one] at this
  simpa [jb, ob1] using this
end Go.Proofs.YtejbookaflnpeaaDoor
