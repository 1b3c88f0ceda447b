/- More bytes: Hash.Add. -/
import Derived.Test.YtejbookaflnpeabDoorAq
namespace Go.Proofs.YtejbookaflnpeabDoor
open Go Go.RowKit
set_option linter.unusedVariables false

theorem feed_append (S K : List Nat) (h : HS) (xs ys : List UInt8) : feed S K h (xs ++ ys) = feed S K (feed S K h xs) ys := by unfold feed; exact List.foldl_append
theorem feed_n (S K : List Nat) : ∀ (xs : List UInt8) (h : HS), (feed S K h xs).n = h.n + xs.length
  | [], h => rfl
  | x :: xs, h => by
    show (feed S K (feed1 S K h x) xs).n = _
    rw [feed_n S K xs]
    have : (feed1 S K h x).n = h.n + 1 := by unfold feed1; split <;> rfl
    rw [this, List.length_cons]; omega
/-- Slices of bytes in a row. -/
def Parts (w : World) (b : Nat) (v : Value) (L : List (Value × List UInt8)) : Prop :=
  ∃ ao c, v = .slice ao L.length c ∧ (ao = none → L.length = 0) ∧ ∀ a, ao = some a → 0 < L.length → a.block ≠ b ∧ a.block < w.heap.size ∧ ∀ j p, L[j]? = some p → w.cell? (a.add j) = some p.1 ∧ Src w b p.1 p.2
theorem Parts.hs {w w' : World} {b : Nat} {v : Value} {L : List (Value × List UInt8)} (h : Parts w b v L) (hh : Hs w w' b) : Parts w' b v L := by
  obtain ⟨ao, c, hv, hno, hs⟩ := h
  refine ⟨ao, c, hv, hno, fun a ha hp => ?_⟩
  obtain ⟨h1, h2, h3⟩ := hs a ha hp
  refine ⟨h1, Nat.lt_of_lt_of_le h2 hh.size, fun j p hj => ⟨?_, (h3 j p hj).2.hs hh⟩⟩
  rw [World.cell?_of_block (w := w) (hh.block (a.add j).block (by rw [add_block]; exact h2) (by rw [add_block]; exact h1))]
  exact (h3 j p hj).1
def bytesOf (L : List (Value × List UInt8)) : List UInt8 := (L.map (·.2)).flatten
/-- What the two tables hold. -/
def Tables (w : World) (S K : List Nat) : Prop :=
  S.length = 8 ∧ K.length = 64 ∧ (∀ i, i < 8 → w.cell? ⟨1, i, none⟩ = some (.int .u32 ((S.getD i 0 : Nat) : Int))) ∧ ∀ i, i < 64 → w.cell? ⟨3, i, none⟩ = some (.int .u32 ((K.getD i 0 : Nat) : Int))
theorem Tables.lt {w : World} {S K : List Nat} (h : Tables w S K) : 1 < w.heap.size ∧ 3 < w.heap.size :=
  ⟨World.block_lt_of_cell? w _ (h.2.2.1 0 (by decide)), World.block_lt_of_cell? w _ (h.2.2.2 0 (by decide))⟩
theorem Tables.hs {w w' : World} {S K : List Nat} {b : Nat} (h : Tables w S K) (hh : Hs w w' b) (hbs : b ≠ 1) (hbk : b ≠ 3) : Tables w' S K :=
  ⟨h.1, h.2.1, fun i hi => (World.cell?_of_block (a := ⟨1, i, none⟩) (hh.block _ h.lt.1 (Ne.symm hbs))).trans (h.2.2.1 i hi), fun i hi => (World.cell?_of_block (a := ⟨3, i, none⟩) (hh.block _ h.lt.2 (Ne.symm hbk))).trans (h.2.2.2 i hi)⟩
theorem addPart_at {w : World} {b : Nat} {h0 : HS} (h : HashAt w b h0.G h0.B h0.n) {S K : List Nat} (ht : Tables w S K) (hbs : b ≠ 1) (hbk : b ≠ 3) {v : Value} {xs : List UInt8} (hv : Src w b v xs) (hn : h0.n + xs.length < 9223372036854775808) :
    Calls Tryd.prog 33 #[.pointer (some ⟨b, 0, none⟩), v] w fun e w' => e = .returned (.tuple #[]) ∧ HashAt w' b (feed S K h0 xs).G (feed S K h0 xs).B (feed S K h0 xs).n ∧ Hs w w' b :=
  addPart_any h S K ht.1 ht.2.1 ht.2.2.1 ht.2.2.2 hbs hbk v xs hv hn
def AdRel (w : World) (b : Nat) (h0 : HS) (S K : List Nat) (L : List (Value × List UInt8)) (u : Value) (wr : World) : Prop :=
  ∃ k : Nat, u = .int .i64 (k : Int) ∧ k ≤ L.length ∧ HashAt wr b (feed S K h0 (bytesOf (L.take k))).G (feed S K h0 (bytesOf (L.take k))).B (feed S K h0 (bytesOf (L.take k))).n ∧ Hs w wr b
set_option maxRecDepth 100000 in
set_option maxHeartbeats 2000000 in
theorem add_any {w : World} {b : Nat} {h0 : HS} (h : HashAt w b h0.G h0.B h0.n) {S K : List Nat} (ht : Tables w S K) (hbs : b ≠ 1) (hbk : b ≠ 3) {v : Value} {L : List (Value × List UInt8)} (hv : Parts w b v L) (hn : h0.n + (bytesOf L).length < 9223372036854775808) (hL : L.length < 9223372036854775808) :
    Calls Tryd.prog 16 #[.pointer (some ⟨b, 0, none⟩), v] w fun e w' => e = .returned (.tuple #[]) ∧ HashAt w' b (feed S K h0 (bytesOf L)).G (feed S K h0 (bytesOf L)).B (feed S K h0 (bytesOf L)).n ∧ Hs w w' b := by
  have hv' := hv
  obtain ⟨ao, c, rfl, hno, hs⟩ := hv'
  have HV := Lib.hid hv
  have HT := Lib.hid ht
  have HS0 := Lib.hid hs
  clear hs ht hv
  go_enter Tryd.func16, Tryd.ntmps16
  go_wp2_with fail
  go_loopw [8] (fun u wr => AdRel w b h0 S K L u wr) (fun u _ => L.length - (intOf u).toNat)
  case atStart => exact ⟨0, rfl, Nat.zero_le _, by simpa [feed, bytesOf] using h, Hs.refl _ _⟩
  case round =>
    obtain ⟨k, rfl, hk, hH, hR⟩ := hrel
    by_cases hkl : k < L.length
    · obtain ⟨ad, rfl⟩ : ∃ ad, ao = some ad := by
        cases ao with
        | none => have := hno rfl; omega
        | some ad => exact ⟨ad, rfl⟩
      obtain ⟨ao', c', hv', _, hs'⟩ := HV.out.hs hR
      obtain ⟨rfl, rfl⟩ : some ad = ao' ∧ c = c' := by simpa using hv'
      obtain ⟨_, _, h3⟩ := hs' ad rfl (by omega)
      obtain ⟨p, hp⟩ : ∃ p, p = L[k] := ⟨_, rfl⟩
      obtain ⟨cell, src⟩ := h3 k p (by rw [hp]; exact List.getElem?_eq_getElem hkl)
      have htk : bytesOf (L.take (k + 1)) = bytesOf (L.take k) ++ p.2 := by
        rw [List.take_succ_eq_append_getElem hkl, ← hp]
        simp [bytesOf]
      have hlen : (bytesOf (L.take (k + 1))).length ≤ (bytesOf L).length := by
        have : bytesOf L = bytesOf (L.take (k + 1)) ++ bytesOf (L.drop (k + 1)) := by
          rw [bytesOf, bytesOf, bytesOf, ← List.flatten_append, ← List.map_append, List.take_append_drop]
        rw [this, List.length_append]; omega
      rw [htk, List.length_append] at hlen
      have hc := addPart_at hH (HT.out.hs hR hbs hbk) hbs hbk src (by rw [feed_n]; omega)
      rw [← feed_append, ← htk] at hc
      have HC := Lib.hid hc
      have q0 : (0 : Int) ≤ (k : Int) := by omega
      have q1 : (k : Int) < (L.length : Int) := by omega
      clear hc hs' h3 hv' hp htk hlen hH src hno
      go_wp2_with (go_at_call 33; refine HC.out.mono ?_; rintro e w7 ⟨rfl, hH7, hR7⟩)
      exact ⟨⟨k + 1, by go_num, by omega, hH7, hR.trans hR7⟩, by simp [intOf]; omega⟩
    · obtain rfl : k = L.length := by omega
      rw [List.take_length] at hH
      go_wp2_with fail
      go_end0
      exact ⟨rfl, hH, hR⟩
end Go.Proofs.YtejbookaflnpeabDoor
