/- Which mark is the last one on two sectors, and the greatest number on them. -/
import Derived.Test.YtgbmkolpdnenlaaMn
namespace Go.Proofs.Ytgbmkolpdnenlaa.Dk
open Go Go.RowKit
set_option linter.unusedVariables false
set_option linter.unusedSimpArgs false
/-- The number of the mark on a sector; none is 0. -/
def seqAt (s : List UInt8) (i : Nat) : Nat := if isM s i then (readM s).seq else 0
theorem last_fst {mk : MkD} (h : mk.Ok) (he : mk.seq % 2 = 0) (hp : 0 < mk.seq) {b : List UInt8} (hb : seqAt b 1 ≤ mk.seq) : lastM (layM mk) b 2 = mk := by
  have h1 : lastM (layM mk) b 1 = mk := by
    unfold lastM
    have hs : sel (layM mk) b 0 = layM mk := rfl
    rw [hs, readM_layM h, if_pos ⟨(isM_layM h 0).2 he, hp⟩]
  unfold lastM
  rw [h1]
  have hs : sel (layM mk) b 1 = b := rfl
  rw [hs]
  refine if_neg (fun hc => ?_)
  unfold seqAt at hb
  rw [if_pos hc.1] at hb
  have := hc.2
  omega
theorem last_snd {mk : MkD} (h : mk.Ok) (he : mk.seq % 2 = 1) {a : List UInt8} (ha : seqAt a 0 < mk.seq) : lastM a (layM mk) 2 = mk := by
  unfold lastM
  have hs : sel a (layM mk) 1 = layM mk := rfl
  rw [hs, readM_layM h]
  refine if_pos ⟨(isM_layM h 1).2 he, ?_⟩
  unfold lastM
  have hs0 : sel a (layM mk) 0 = a := rfl
  rw [hs0]
  split
  · rename_i hc
    unfold seqAt at ha
    rwa [if_pos hc.1] at ha
  · show noM.seq < _
    have : noM.seq = 0 := rfl
    omega
/-- What is no mark on either sector leaves none. -/
theorem last_none {a b : List UInt8} (ha : seqAt a 0 = 0) (hb : seqAt b 1 = 0) : lastM a b 2 = noM := by
  have h1 : lastM a b 1 = noM := by
    unfold lastM
    have hs0 : sel a b 0 = a := rfl
    rw [hs0]
    refine if_neg (fun hc => ?_)
    unfold seqAt at ha
    rw [if_pos hc.1] at ha
    have := hc.2
    omega
  unfold lastM
  have hs : sel a b 1 = b := rfl
  rw [h1, hs]
  refine if_neg (fun hc => ?_)
  unfold seqAt at hb
  rw [if_pos hc.1] at hb
  have := hc.2
  omega
theorem seqAt_layM {mk : MkD} (h : mk.Ok) (i : Nat) : seqAt (layM mk) i = if mk.seq % 2 = i then mk.seq else 0 := by
  unfold seqAt
  rw [readM_layM h]
  by_cases hi : mk.seq % 2 = i
  · rw [if_pos ((isM_layM h i).2 hi), if_pos hi]
  · rw [if_neg (fun hc => hi ((isM_layM h i).1 hc)), if_neg hi]
theorem seqAt_zeros (i : Nat) : seqAt zeros i = 0 := by
  have : readM zeros = noM := by decide +kernel
  unfold seqAt
  split
  · rw [this]; rfl
  · rfl
/-- The number of a mark never passes the first word of its sector. -/
theorem seqAt_le (s : List UInt8) (i : Nat) : seqAt s i ≤ wordN s 0 8 := by
  unfold seqAt
  split
  · exact Nat.le_refl _
  · exact Nat.zero_le _
/-- The greatest of the two words of a sector where a mark's number stands. -/
def topAt (s : List UInt8) : Nat := max (wordN s 0 8) (wordN s 56 8)
theorem greatN_eq (a b : List UInt8) : greatN a b 2 = max (topAt a) (topAt b) := by
  have h2 : greatN a b 2 = max (max (greatN a b 1) (wordN b 0 8)) (wordN b 56 8) := rfl
  have h1 : greatN a b 1 = max (max (greatN a b 0) (wordN a 0 8)) (wordN a 56 8) := rfl
  have h0 : greatN a b 0 = 0 := rfl
  rw [h2, h1, h0]
  unfold topAt
  generalize wordN a 0 8 = p
  generalize wordN a 56 8 = q
  generalize wordN b 0 8 = r
  generalize wordN b 56 8 = t
  omega
theorem topAt_layM {mk : MkD} (h : mk.Ok) : topAt (layM mk) = mk.seq := by
  have h0 := layM_word h (i := 0) (by decide)
  rw [Nat.mul_zero, List.getD_cons_zero] at h0
  unfold topAt
  rw [layM_second h, h0]
  exact Nat.max_self _
theorem topAt_zeros : topAt zeros = 0 := by decide +kernel
end Go.Proofs.Ytgbmkolpdnenlaa.Dk
