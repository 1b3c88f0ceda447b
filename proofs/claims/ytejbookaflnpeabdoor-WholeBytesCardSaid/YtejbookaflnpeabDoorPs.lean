/- Feeding whole blocks, and the filling: the plain parts of SHA-256. -/
import Derived.Test.YtejbookaflnpeabDoorHs
namespace Go.Proofs.YtejbookaflnpeabDoor
open Go Go.RowKit
set_option linter.unusedVariables false

/-- A block into the eight numbers. -/
def mixR (K H : List Nat) (B : List UInt8) : List Nat := zip8 H (rnds (exs B 48) K (S8.of H) 64).list
theorem zip8_get (G S : List Nat) {i : Nat} (hi : i < 8) : (zip8 G S).getD i 0 = (G.getD i 0 + S.getD i 0) % 4294967296 := by
  simp [zip8, List.getD, hi]
theorem zip8_swap (G N S : List Nat) : zip8 (zip8 G N) S = zip8 (zip8 G S) N := by
  unfold zip8
  apply List.map_congr_left
  intro i hi
  have h8 : i < 8 := List.mem_range.1 hi
  have e1 := zip8_get G N h8
  have e2 := zip8_get G S h8
  unfold zip8 at e1 e2
  rw [e1, e2]
  omega
theorem mixG_R (G S K : List Nat) (B : List UInt8) : zip8 (mixG G S K B) S = mixR K (zip8 G S) B := by
  unfold mixG mixR
  exact zip8_swap _ _ _
def chunk (xs : List UInt8) (i : Nat) : List UInt8 := (xs.drop (64 * i)).take 64
def blocksR (K H : List Nat) (xs : List UInt8) : Nat → List Nat
  | 0 => H
  | i + 1 => mixR K (blocksR K H xs i) (chunk xs i)
theorem lay_whole (B c : List UInt8) (hB : B.length = 64) (hc : c.length = 64) : lay B 0 c = c := by
  simp [lay, hc, ← hB]
theorem feed_blocks (S K : List Nat) (h : HS) (hB : h.B.length = 64) (hn : h.n % 64 = 0) (xs : List UInt8) : ∀ m, 64 * m ≤ xs.length →
    ∃ G' B', B'.length = 64 ∧ feed S K h (xs.take (64 * m)) = ⟨G', B', h.n + 64 * m⟩ ∧ zip8 G' S = blocksR K (zip8 h.G S) xs m
  | 0, _ => ⟨h.G, h.B, hB, by simp [feed], rfl⟩
  | m + 1, hm => by
    obtain ⟨G', B', hB', hf, hz⟩ := feed_blocks S K h hB hn xs m (by omega)
    have hc : (chunk xs m).length = 64 := by simp [chunk]; omega
    have e : xs.take (64 * (m + 1)) = xs.take (64 * m) ++ chunk xs m := by
      rw [show 64 * (m + 1) = 64 * m + 64 by omega, List.take_add]; rfl
    refine ⟨mixG G' S K (chunk xs m), chunk xs m, hc, ?_, ?_⟩
    · rw [e, feed_append, hf, feed_block S K (chunk xs m) ⟨G', B', h.n + 64 * m⟩ hB' (by omega) (by rw [hc]; show (h.n + 64 * m) % 64 + 64 ≤ 64; omega)]
      have h0 : (h.n + 64 * m) % 64 = 0 := by omega
      simp only [hc, h0]
      rw [if_pos (by omega), lay_whole _ _ hB' hc]
      congr 1
    · rw [mixG_R, hz]; rfl
/-- The bytes of some numbers, the highest first. -/
def ob1 (x : Nat) : List UInt8 := [UInt8.ofNat (x / 16777216), UInt8.ofNat (x / 65536), UInt8.ofNat (x / 256), UInt8.ofNat x]
def ob (l : List Nat) : List UInt8 := l.flatMap ob1
theorem ob_length (l : List Nat) : (ob l).length = 4 * l.length := by
  induction l with
  | nil => rfl
  | cons x l ih => simp [ob, ob1] at ih ⊢; omega
/-- What is told behind so many bytes. -/
def shaOf (S K : List Nat) (h : HS) : List UInt8 := ob (zip8 (feed S K h (FL h.n (64 - (h.n + 8) % 64) 8)).G S)
theorem shaOf_length (S K : List Nat) (h : HS) : (shaOf S K h).length = 32 := by
  unfold shaOf
  rw [ob_length, zip8_length]
def H0 : HS := ⟨List.replicate 8 0, List.replicate 64 0, 0⟩
theorem feed_B (S K : List Nat) : ∀ (xs : List UInt8) (h : HS), (feed S K h xs).B.length = h.B.length
  | [], h => rfl
  | x :: xs, h => by
    show (feed S K (feed1 S K h x) xs).B.length = _
    rw [feed_B S K xs]
    unfold feed1
    split <;> simp
/-- The filling. -/
def be8 (n : Nat) : List UInt8 := [flb n 7, flb n 6, flb n 5, flb n 4, flb n 3, flb n 2, flb n 1, flb n 0]
theorem FL_eq (n t : Nat) (ht : 0 < t) : FL n t 8 = 128 :: (List.replicate (t - 1) 0 ++ be8 n) := by
  obtain ⟨k, rfl⟩ : ∃ k, t = k + 1 := ⟨t - 1, by omega⟩
  have e : List.replicate (k + 1 + 8) (0 : UInt8) = 0 :: (List.replicate k 0 ++ List.replicate 8 0) := by
    rw [show k + 1 + 8 = (k + 8) + 1 by omega, List.replicate_succ, List.replicate_append_replicate]
  have st : ∀ (l : List UInt8) (j : Nat) (x : UInt8), (128 :: (List.replicate k 0 ++ l)).set (k + 1 + j) x = 128 :: (List.replicate k 0 ++ l.set j x) := by
    intro l j x
    rw [show k + 1 + j = (k + j) + 1 by omega, List.set_cons_succ, List.set_append_right _ _ (by simp)]
    simp
  simp only [FL, e, List.set_cons_zero]
  rw [show k + 1 + 7 - 0 = k + 1 + 7 by omega, show k + 1 + 7 - 1 = k + 1 + 6 by omega, show k + 1 + 7 - 2 = k + 1 + 5 by omega, show k + 1 + 7 - 3 = k + 1 + 4 by omega,
    show k + 1 + 7 - 4 = k + 1 + 3 by omega, show k + 1 + 7 - 5 = k + 1 + 2 by omega, show k + 1 + 7 - 6 = k + 1 + 1 by omega, show k + 1 + 7 - 7 = k + 1 + 0 by omega]
  rw [st, st, st, st, st, st, st, st]
  rfl
def padded (xs : List UInt8) : List UInt8 := xs ++ 128 :: (List.replicate (64 - (xs.length + 8) % 64 - 1) 0 ++ be8 xs.length)
theorem padded_length (xs : List UInt8) : (padded xs).length = 64 * ((padded xs).length / 64) := by
  have : (padded xs).length = xs.length + 1 + (64 - (xs.length + 8) % 64 - 1) + 8 := by simp [padded, be8]; omega
  omega
theorem zip8_zero (S : List Nat) (hS : S.length = 8) (hlt : ∀ x ∈ S, x < 4294967296) : zip8 (List.replicate 8 0) S = S := by
  match S, hS with
  | [a, b, c, d, e, f, g, h], _ =>
    simp only [List.mem_cons, List.not_mem_nil, or_false, forall_eq_or_imp, forall_eq] at hlt
    obtain ⟨h1, h2, h3, h4, h5, h6, h7, h8⟩ := hlt
    simp [zip8, List.range_succ, Nat.mod_eq_of_lt, *]
/-- The SHA-256 of bytes, as the standard has it. -/
def shaR (S K : List Nat) (xs : List UInt8) : List UInt8 := ob (blocksR K S (padded xs) ((padded xs).length / 64))
theorem sha_R (S K : List Nat) (hS : S.length = 8) (hlt : ∀ x ∈ S, x < 4294967296) (xs : List UInt8) : shaOf S K (feed S K H0 xs) = shaR S K xs := by
  unfold shaOf shaR
  have hn : (feed S K H0 xs).n = xs.length := by rw [feed_n]; simp [H0]
  rw [hn, ← feed_append, FL_eq _ _ (by omega)]
  obtain ⟨G', B', hB', hf, hz⟩ := feed_blocks S K H0 (by simp [H0]) rfl (padded xs) ((padded xs).length / 64) (by omega)
  rw [← padded_length, List.take_length] at hf
  show ob (zip8 (feed S K H0 (padded xs)).G S) = _
  rw [hf]
  show ob (zip8 G' S) = _
  rw [hz]
  simp only [H0]
  rw [zip8_zero S hS hlt]
end Go.Proofs.YtejbookaflnpeabDoor
