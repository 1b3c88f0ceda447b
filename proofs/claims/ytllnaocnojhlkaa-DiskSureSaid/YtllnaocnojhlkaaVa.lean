/- Bytes laid over the sectors of a ring are there again: lists and numbers alone. -/
import Derived.Test.YtllnaocnojhlkaaUh
namespace Go.Proofs.Ytllnaocnojhlkaa.Dk
open Go Go.RowKit
set_option linter.unusedVariables false
set_option linter.unusedSimpArgs false

/-- A disk of N sectors that goes on: powered, without a fuse, each sector whole. -/
structure Good (x : DS) (N : Nat) : Prop where
  up : x.down = false
  fu : x.fuse = -1
  n : x.s.length = N
  len : ∀ b ∈ x.s, b.length = 128
  wl : ∀ i l, x.S i = some l → l.length = 128 ∧ 0 ≤ i ∧ i < (N : Int)
theorem good_new (n : Nat) : Good (DS.new n) n := ⟨rfl, rfl, by simp [DS.new], fun b hb => by simp [DS.new] at hb; rw [hb.2]; rfl, fun i l h => by simp [DS.new] at h⟩
theorem Good.has {x : DS} {N : Nat} (h : Good x N) {i : Nat} (hi : i < N) : x.has (i : Int) = true := by
  simp [DS.has, h.n]; exact hi
theorem Good.read {x : DS} {N : Nat} (h : Good x N) {i : Nat} (hi : i < N) : (x.read (i : Int)).2 = 0 ∧ (x.read (i : Int)).1.length = 128 := by
  unfold DS.read
  rw [if_neg (by rw [h.up]; decide)]
  cases hs : x.S (i : Int) with
  | some l => exact ⟨rfl, (h.wl _ _ hs).1⟩
  | none =>
    simp only [DS.sure, h.has hi, if_neg (show ¬ (true = false) by decide)]
    refine ⟨trivial, ?_⟩
    apply h.len
    have : i < x.s.length := by rw [h.n]; exact hi
    simp [List.getD, this]
theorem Good.spend {x : DS} {N : Nat} (h : Good x N) : x.spend = x := by
  unfold DS.spend
  rw [if_neg (by rw [h.fu]; decide), if_neg (by rw [h.fu]; decide)]
theorem Good.wcode {x : DS} {N : Nat} (h : Good x N) {i : Nat} (hi : i < N) : x.wcode (i : Int) 128 = 0 := by
  simp [DS.wcode, h.up, h.has hi, h.fu]
theorem Good.writeEq {x : DS} {N : Nat} (h : Good x N) {i : Nat} (hi : i < N) {b : List UInt8} (hb : b.length = 128) : x.write (i : Int) b = { x with S := upd x.S (i : Int) b, wr := wrap64 (x.wr + 1) } := by
  unfold DS.write
  rw [if_neg (by rw [h.up]; decide), if_neg (by rw [h.has hi]; decide), if_neg (by omega), if_neg (by omega), if_neg (by rw [h.fu]; decide), h.spend]
theorem Good.write {x : DS} {N : Nat} (h : Good x N) {i : Nat} (hi : i < N) {b : List UInt8} (hb : b.length = 128) : Good (x.write (i : Int) b) N := by
  rw [h.writeEq hi hb]
  refine ⟨h.up, h.fu, h.n, h.len, fun j l hl => ?_⟩
  simp only [upd] at hl
  split at hl
  · rename_i e
    cases hl
    exact ⟨hb, by omega, by omega⟩
  · exact h.wl j l hl
theorem Good.writeRead {x : DS} {N : Nat} (h : Good x N) {i : Nat} (hi : i < N) {b : List UInt8} (hb : b.length = 128) (j : Nat) : (x.write (i : Int) b).read (j : Int) = if j = i then (b, 0) else x.read (j : Int) := by
  rw [h.writeEq hi hb]
  unfold DS.read
  simp only [h.up, upd]
  by_cases e : j = i
  · subst e; simp
  · have : ¬ (j : Int) = (i : Int) := by omega
    simp [e, this]
    rfl
/-- The flush of such a disk. -/
theorem Good.flush {x : DS} {N : Nat} (h : Good x N) : Good x.flush N ∧ x.fcode = 0 ∧ ∀ j : Nat, j < N → x.flush.read (j : Int) = x.read (j : Int) := by
  have e : x.flush = { x with s := Dk.laid x.s x.S (fun _ => false), S := fun _ => none, fl := wrap64 (x.fl + 1) } := by
    unfold DS.flush
    rw [if_neg (by rw [h.up]; decide), if_neg (by rw [h.fu]; decide), h.spend]
  have hl : (Dk.laid x.s x.S (fun _ => false)).length = N := by simp [Dk.laid, h.n]
  have hg : ∀ j : Nat, j < N → (Dk.laid x.s x.S (fun _ => false))[j]? = some ((x.S (j : Int)).getD (x.s.getD j [])) := by
    intro j hj
    have : j < x.s.length := by rw [h.n]; exact hj
    simp [Dk.laid, List.getD, this]
  refine ⟨?_, ?_, ?_⟩
  · rw [e]
    refine ⟨h.up, h.fu, hl, fun b hb => ?_, fun i l hh => by simp at hh⟩
    obtain ⟨j, hj, rfl⟩ := List.mem_iff_getElem.1 hb
    have hj' : j < N := by have : j < (Dk.laid x.s x.S (fun _ => false)).length := hj; omega
    have h1 := hg j hj'
    have h2 : (Dk.laid x.s x.S (fun _ => false))[j]? = some ((Dk.laid x.s x.S (fun _ => false))[j]) := List.getElem?_eq_getElem hj
    rw [h2] at h1
    injection h1 with h1
    show ((Dk.laid x.s x.S (fun _ => false))[j]).length = 128
    rw [h1]
    cases hs : x.S (j : Int) with
    | some l => exact (h.wl _ _ hs).1
    | none =>
      have : j < x.s.length := by rw [h.n]; exact hj'
      simp only [Option.getD]
      apply h.len
      simp [List.getD, this]
  · simp [DS.fcode, h.up, h.fu]
  · intro j hj
    rw [e]
    have hj' : j < x.s.length := by rw [h.n]; exact hj
    have hh : (decide (0 ≤ (j : Int)) && decide ((j : Int) < ((Dk.laid x.s x.S (fun _ => false)).length : Int))) = true := by rw [hl]; simp; exact hj
    have hh2 : (decide (0 ≤ (j : Int)) && decide ((j : Int) < (x.s.length : Int))) = true := by simp; exact hj'
    have h1 := hg j hj
    unfold DS.read DS.sure DS.has
    rw [hh, hh2]
    simp only [h.up, List.getD, Int.toNat_natCast, h1, Option.getD_some, if_neg (show ¬ (false = true) by decide), if_neg (show ¬ (true = false) by decide)]
    cases hs : x.S (j : Int) with
    | some l => rfl
    | none => rfl
def rup (n : Nat) : Nat := (n + 127) / 128 * 128
theorem sec_lt {first count N : Nat} (hc : 1 ≤ count) (hN : first + count ≤ N) (i : Nat) : sec first count i < N := by
  unfold sec
  have := Nat.mod_lt (i / 128) (show 0 < count by omega)
  omega
theorem mod_ne {a b c : Nat} (h1 : a < b) (h2 : b < a + c) : a % c ≠ b % c := by
  intro e
  obtain ⟨k, rfl⟩ : ∃ k, b = a + k := ⟨b - a, by omega⟩
  have hk : k % c = 0 := by
    have h3 := Nat.sub_mod_eq_zero_of_mod_eq e.symm
    rwa [Nat.add_sub_cancel_left] at h3
  have : k % c = k := Nat.mod_eq_of_lt (by omega)
  omega
theorem sec_ne {first count i j : Nat} (h1 : i / 128 < j / 128) (h2 : j / 128 < i / 128 + count) : sec first count i ≠ sec first count j := by
  unfold sec
  have := mod_ne h1 h2
  omega
theorem byteAt_lt {first count at_ j : Nat} (h : at_ % 128 = 0) (hj : j < 128) : sec first count (at_ + j) = sec first count at_ := by
  unfold sec
  have : (at_ + j) / 128 = at_ / 128 := by omega
  rw [this]
theorem pad_getD {b : List UInt8} {j : Nat} (hj : j < 128) (hb : j < b.length) : (pad b).getD j 0 = b.getD j 0 := by
  have h1 : j < (b.take 128).length := by rw [List.length_take]; omega
  simp only [pad, List.getD]
  rw [List.getElem?_append_left h1, List.getElem?_take, if_pos hj]
theorem lays_good {first count N : Nat} (hc : 1 ≤ count) (hN : first + count ≤ N) : ∀ (f : Nat) (x : DS) (at_ : Nat) (b : List UInt8), Good x N → at_ % 128 = 0 → b.length ≤ count * 128 → b.length ≤ f * 128 →
    (lays first count f x at_ b).2 = 0 ∧ Good (lays first count f x at_ b).1 N ∧ (∀ j, j < b.length → byteAt first count (lays first count f x at_ b).1 (at_ + j) = b.getD j 0) ∧
    (∀ i, i < at_ → at_ + rup b.length ≤ i / 128 * 128 + count * 128 → (lays first count f x at_ b).1.read (sec first count i : Nat) = x.read (sec first count i : Nat))
  | 0, x, at_, b, hx, ha, h1, h2 => by
    have : b = [] := List.length_eq_zero_iff.1 (by omega)
    subst this
    exact ⟨rfl, hx, fun j hj => by simp at hj, fun i _ _ => rfl⟩
  | f + 1, x, at_, b, hx, ha, h1, h2 => by
    by_cases hb : b = []
    · subst hb
      simp only [lays, if_true]
      exact ⟨trivial, hx, fun j hj => by simp at hj, fun i _ _ => trivial⟩
    have hs := sec_lt hc hN at_
    have hpl := pad_length b
    have hp : 0 < b.length := by cases b with | nil => exact absurd rfl hb | cons a l => simp
    have e : lays first count (f + 1) x at_ b = lays first count f (x.write (sec first count at_ : Nat) (pad b)) (at_ + 128) (b.drop 128) := by
      rw [lays, if_neg hb, if_pos (hx.wcode hs)]
    rw [e]
    have hdl : (b.drop 128).length = b.length - 128 := List.length_drop
    obtain ⟨i1, i2, i3, i4⟩ := lays_good hc hN f (x.write (sec first count at_ : Nat) (pad b)) (at_ + 128) (b.drop 128) (hx.write hs hpl) (by omega) (by omega) (by omega)
    refine ⟨i1, i2, fun j hj => ?_, fun i hi hr => ?_⟩
    · by_cases h128 : j < 128
      · have h5 := i4 (at_ + j) (by omega) (by rw [hdl]; unfold rup; omega)
        unfold byteAt
        rw [h5, byteAt_lt ha h128, hx.writeRead hs hpl, if_pos rfl]
        rw [show (at_ + j) % 128 = j by omega]
        exact pad_getD h128 hj
      · have h5 := i3 (j - 128) (by omega)
        rw [show at_ + 128 + (j - 128) = at_ + j by omega] at h5
        rw [h5]
        simp only [List.getD, List.getElem?_drop]
        rw [show 128 + (j - 128) = j by omega]
    · have h5 := i4 i (by omega) (by rw [hdl]; unfold rup at hr ⊢; omega)
      rw [h5, hx.writeRead hs hpl, if_neg]
      exact sec_ne (by omega) (by unfold rup at hr; omega)
theorem bytesAt_eq {first count : Nat} {x : DS} {at_ : Nat} {b : List UInt8} (h : ∀ j, j < b.length → byteAt first count x (at_ + j) = b.getD j 0) : bytesAt first count x at_ b.length = b := by
  apply List.ext_getElem
  · exact bytesAt_length ..
  · intro i h1 h2
    simp only [bytesAt, List.getElem_map, List.getElem_range]
    rw [h i h2]
    simp [List.getD, h2]
end Go.Proofs.Ytllnaocnojhlkaa.Dk
