/- A ring in memory, and what its small calls leave. -/
import Derived.Test.YtllnaocnojhlkaaDq
import Derived.Deep.QuietTactic
import Derived.BigQuiet
namespace Go.Proofs.Ytllnaocnojhlkaa.Dk
open Go Go.RowKit
set_option linter.unusedVariables false
set_option linter.unusedSimpArgs false

/-- Block r is a ring over the disk at d; the last sector's bytes are at block k. -/
structure RingAt (w : World) (r d k first count tail : Nat) (S : List UInt8) (t : TypeId) : Prop where
  blk : w.heap[r]? = some (.cells #[.pointer (some ⟨d, 0, none⟩), .int .i64 (first : Int), .int .i64 (count : Int), .int .u64 (tail : Int), .slice (some ⟨k, 0, none⟩) (tail % 128) (tail % 128)] 115 (0, 0))
  row : w.heap[k]? = some (.cells (bvs S).toArray t (0, 0))
  len : S.length = 128
  ne : r ≠ k
  cnt : 1 ≤ count
  few : first + count ≤ 4096
  tl : tail < 18446744073709551616

variable {w w' : World} {r d k first count tail : Nat} {S : List UInt8} {t : TypeId}
theorem RingAt.keep (h : RingAt w r d k first count tail S t) (h1 : w'.heap[r]? = w.heap[r]?) (h2 : w'.heap[k]? = w.heap[k]?) : RingAt w' r d k first count tail S t := ⟨h1.trans h.blk, h2.trans h.row, h.len, h.ne, h.cnt, h.few, h.tl⟩
theorem RingAt.rlt (h : RingAt w r d k first count tail S t) : r < w.heap.size := lt_of_row h.blk
theorem RingAt.klt (h : RingAt w r d k first count tail S t) : k < w.heap.size := lt_of_row h.row
theorem RingAt.below {B : Nat} (h : RingAt w r d k first count tail S t) (f : Below B w w') (hB : w.heap.size ≤ B) : RingAt w' r d k first count tail S t := h.keep (f.block r (by have := h.rlt; omega)) (f.block k (by have := h.klt; omega))
theorem RingAt.frame {T : Nat → Prop} (h : RingAt w r d k first count tail S t) (f : Frm T w w') (h1 : ¬ T r) (h2 : ¬ T k) : RingAt w' r d k first count tail S t := h.keep (f.block r h.rlt h1) (f.block k h.klt h2)
theorem RingAt.q0 (h : RingAt w r d k first count tail S t) : w.cell? ⟨r, 0, none⟩ = some (.pointer (some ⟨d, 0, none⟩)) := by rw [cell_of_row w r 0 _ _ _ h.blk]; rfl
theorem RingAt.q1 (h : RingAt w r d k first count tail S t) : w.cell? ⟨r, 1, none⟩ = some (.int .i64 (first : Int)) := by rw [cell_of_row w r 1 _ _ _ h.blk]; rfl
theorem RingAt.q2 (h : RingAt w r d k first count tail S t) : w.cell? ⟨r, 2, none⟩ = some (.int .i64 (count : Int)) := by rw [cell_of_row w r 2 _ _ _ h.blk]; rfl
theorem RingAt.q3 (h : RingAt w r d k first count tail S t) : w.cell? ⟨r, 3, none⟩ = some (.int .u64 (tail : Int)) := by rw [cell_of_row w r 3 _ _ _ h.blk]; rfl
theorem RingAt.q4 (h : RingAt w r d k first count tail S t) : w.cell? ⟨r, 4, none⟩ = some (.slice (some ⟨k, 0, none⟩) (tail % 128) (tail % 128)) := by rw [cell_of_row w r 4 _ _ _ h.blk]; rfl
theorem RingAt.free (h : RingAt w r d k first count tail S t) (i : Nat) : w.frozen? ⟨r, i, none⟩ = false := frozen_of_row w r i _ _ h.blk
theorem ret_i64 {a b : Int} (h : a = b) : Ending.returned (.int .i64 a) = Ending.returned (.int .i64 b) := by rw [h]

theorem inSector_any (n : Nat) (hn : n < 18446744073709551616) (w : World) : Calls Try.prog 50 #[.int .u64 (n : Int)] w fun e w' => e = .returned (.int .i64 ((n % 128 : Nat) : Int)) ∧ w = w' := by
  go_enter Try.func50, Try.ntmps50
  go_wp2_with fail
  go_ret
  exact ⟨ret_i64 (by omega), rfl⟩
theorem tail_any (h : RingAt w r d k first count tail S t) : Calls Try.prog 22 #[.pointer (some ⟨r, 0, none⟩)] w fun e w' => e = .returned (.int .u64 (tail : Int)) ∧ w = w' := by
  have q3 := h.q3
  clear h
  go_enter Try.func22, Try.ntmps22
  go_wp2_with fail
  go_ret
  exact ⟨rfl, rfl⟩
theorem size_any (h : RingAt w r d k first count tail S t) : Calls Try.prog 23 #[.pointer (some ⟨r, 0, none⟩)] w fun e w' => e = .returned (.int .i64 ((count * 128 : Nat) : Int)) ∧ w = w' := by
  have q2 := h.q2
  have hf := h.few
  clear h
  go_enter Try.func23, Try.ntmps23
  go_wp2_with fail
  go_ret
  exact ⟨ret_i64 (by omega), rfl⟩
/-- The sector of a byte. -/
def sec (first count n : Nat) : Nat := first + n / 128 % count
theorem secI {first count n : Nat} (hn : n < 18446744073709551616) (hf : first + count ≤ 4096) (hc : 1 ≤ count) : wrap64 ((first : Int) + wrap64 ((IntKind.u64.wrap ((n : Int) / 128)).tmod (count : Int))) = ((sec first count n : Nat) : Int) := by
  have hm : n / 128 % count < count := Nat.mod_lt _ hc
  have e1 : IntKind.u64.wrap ((n : Int) / 128) = ((n / 128 : Nat) : Int) := by rw [IntKind.wrap_u64]; omega
  have e2 : ((n / 128 : Nat) : Int).tmod (count : Int) = ((n / 128 % count : Nat) : Int) := by
    rw [Int.tmod_eq_emod_of_nonneg (by omega)]
    simp
  rw [e1, e2]
  unfold sec
  generalize n / 128 % count = q at *
  have e3 : wrap64 (q : Int) = (q : Int) := by unfold wrap64; omega
  rw [e3]
  unfold wrap64
  omega
theorem rsector_any (h : RingAt w r d k first count tail S t) (n : Nat) (hn : n < 18446744073709551616) : Calls Try.prog 48 #[.pointer (some ⟨r, 0, none⟩), .int .u64 (n : Int)] w fun e w' => e = .returned (.int .i64 ((sec first count n : Nat) : Int)) ∧ ∃ m, w' = w.drewN m := by
  have q1 := h.q1
  have q2 := h.q2
  have hf := h.few
  have hc := h.cnt
  have hm : n / 128 % count < count := Nat.mod_lt _ hc
  have hci : ¬ (count : Int) = 0 := by omega
  have HN := Lib.hid hn
  clear h hn hm
  go_enter Try.func48, Try.ntmps48
  go_wp2_with fail
  go_quiet (fail)
  go_wp2_with fail
  go_ret
  exact ⟨ret_i64 (secI HN.out hf hc), _, rfl⟩
theorem keep_any (h : RingAt w r d k first count tail S t) {k' : Nat} {S' : List UInt8} {t' : TypeId} (hr : w.heap[k']? = some (.cells (bvs S').toArray t' (0, 0))) (hl : S'.length = 128) (hne : r ≠ k') :
    Calls Try.prog 49 #[.pointer (some ⟨r, 0, none⟩), .slice (some ⟨k', 0, none⟩) 128 128] w fun e w' => e = .returned (.tuple #[]) ∧ RingAt w' r d k' first count tail S' t' ∧ Frm (fun i => i = r) w w' := by
  have q3 := h.q3
  have q4 := h.q4
  have f4 := h.free 4
  have IS := Lib.hid (inSector_any tail h.tl w)
  have hm : tail % 128 < 128 := Nat.mod_lt _ (by decide)
  generalize hq : tail % 128 = q at *
  have hqi : (q : Int) ≤ 128 := by omega
  have R := Lib.hid (show RingAt (w.setCell ⟨r, 4, none⟩ (.slice (some ⟨k', 0, none⟩) q q)) r d k' first count tail S' t' from
    ⟨by have := Go.Joins.block_setCell (i := 4) h.blk (.slice (some ⟨k', 0, none⟩) q q)
        rw [hq]
        simpa using this, (Below.heap_setCell w ⟨r, 4, none⟩ _ k' (fun e => hne e.symm)).trans hr, hl, hne, h.cnt, h.few, h.tl⟩)
  clear h hr hq hm
  go_enter Try.func49, Try.ntmps49
  go_wp2_with (go_at_call 50; refine IS.out.mono ?_; rintro e w' ⟨rfl, rfl⟩)
  go_end0
  exact ⟨rfl, R.out, (Frm.refl (fun i => i = r) w).setCell (p := ⟨r, 4, none⟩) (.inl rfl) _⟩
/-- How many bytes more there may be. -/
def leftN (head tail count : Nat) : Nat := count * 128 - (tail - min head tail / 128 * 128)
theorem leftJ {head tail count hd st sz : Nat} (hm : hd = min head tail) (ht : tail ≤ 4611686018427387904) (hst : st = tail - hd + hd % 128) (hsz : sz = count * 128) (hs : st < sz) : (sz : Int) - (st : Int) = ((leftN head tail count : Nat) : Int) := by
  unfold leftN
  rw [← hm]
  omega
theorem leftK {head tail count hd st sz : Nat} (hm : hd = min head tail) (hst : st = tail - hd + hd % 128) (hsz : sz = count * 128) (hs : ¬ st < sz) : (0 : Int) = ((leftN head tail count : Nat) : Int) := by
  unfold leftN
  rw [← hm]
  omega
theorem left_at (h : RingAt w r d k first count tail S t) (ht : tail ≤ 4611686018427387904) (head : Nat) (hh : head < 18446744073709551616) (c : Bool) (hc : decide (tail < head) = c) :
    Calls Try.prog 18 #[.pointer (some ⟨r, 0, none⟩), .int .u64 (head : Int)] w fun e w' => e = .returned (.int .i64 ((leftN head tail count : Nat) : Int)) ∧ ∃ m, w' = w.drewN m := by
  have q3 := h.q3
  have hf := h.few
  have SZ := Lib.hid (fun n => size_any (w := w.drewN n) (h.keep rfl rfl))
  obtain ⟨hd, hhd⟩ : ∃ hd, hd = min head tail := ⟨_, rfl⟩
  have IS := Lib.hid (fun n => inSector_any hd (by omega) (w.drewN n))
  have HM := Lib.hid hhd
  have HT := Lib.hid ht
  have HH := Lib.hid hh
  cases c with
  | true =>
    have hlt : tail < head := by simpa using hc
    have hi : (tail : Int) < (head : Int) := by omega
    obtain rfl : hd = tail := by omega
    clear h hhd ht hh hc
    go_enter Try.func18, Try.ntmps18
    go_wp2_with fail
    go_quiet (first | (go_at_call 50; refine Calls.quiet_of_same ((IS.out _).mono fun _ _ h => ⟨h.1, h.2.symm⟩)))
    obtain ⟨st, hst⟩ : ∃ st : Nat, st = hd - hd + hd % 128 := ⟨_, rfl⟩
    have est : ((hd : Int) % 128) = (st : Int) := by omega
    rw [est]
    have ST := Lib.hid hst
    clear hst est
    obtain ⟨sz, hsz⟩ : ∃ sz, sz = count * 128 := ⟨_, rfl⟩
    rw [← hsz] at SZ
    have szb : sz ≤ 524288 := by omega
    have SB := Lib.hid hsz
    clear hsz
    by_cases hs : st < sz
    · have hsi : (st : Int) < (sz : Int) := by omega
      have HS := Lib.hid hs
      clear hs
      go_wp2_with (go_at_call 23; refine (SZ.out nq).mono ?_; rintro e w' ⟨rfl, rfl⟩)
      go_ret
      exact ⟨ret_i64 (leftJ HM.out HT.out ST.out SB.out HS.out), _, rfl⟩
    · have hsi : ¬ (st : Int) < (sz : Int) := by omega
      have HS := Lib.hid hs
      clear hs
      go_wp2_with (go_at_call 23; refine (SZ.out nq).mono ?_; rintro e w' ⟨rfl, rfl⟩)
      go_ret
      exact ⟨ret_i64 (leftK HM.out ST.out SB.out HS.out), _, rfl⟩
  | false =>
    have hlt : ¬ tail < head := by simpa using hc
    have hi : ¬ (tail : Int) < (head : Int) := by omega
    obtain rfl : hd = head := by omega
    obtain ⟨st, hst⟩ : ∃ st : Nat, st = tail - hd + hd % 128 := ⟨_, rfl⟩
    have est : IntKind.u64.wrap (IntKind.u64.wrap ((tail : Int) - (hd : Int)) + (hd : Int) % 128) = (st : Int) := by rw [IntKind.wrap_u64, IntKind.wrap_u64]; omega
    have EST := Lib.hid est
    have ST := Lib.hid hst
    clear h hhd ht hh hc hst est
    go_enter Try.func18, Try.ntmps18
    go_wp2_with fail
    go_quiet (first | (go_at_call 50; refine Calls.quiet_of_same ((IS.out _).mono fun _ _ h => ⟨h.1, h.2.symm⟩)))
    rw [EST.out]
    obtain ⟨sz, hsz⟩ : ∃ sz, sz = count * 128 := ⟨_, rfl⟩
    rw [← hsz] at SZ
    have szb : sz ≤ 524288 := by omega
    have SB := Lib.hid hsz
    clear hsz
    by_cases hs : st < sz
    · have hsi : (st : Int) < (sz : Int) := by omega
      have HS := Lib.hid hs
      clear hs
      go_wp2_with (go_at_call 23; refine (SZ.out nq).mono ?_; rintro e w' ⟨rfl, rfl⟩)
      go_ret
      exact ⟨ret_i64 (leftJ HM.out HT.out ST.out SB.out HS.out), _, rfl⟩
    · have hsi : ¬ (st : Int) < (sz : Int) := by omega
      have HS := Lib.hid hs
      clear hs
      go_wp2_with (go_at_call 23; refine (SZ.out nq).mono ?_; rintro e w' ⟨rfl, rfl⟩)
      go_ret
      exact ⟨ret_i64 (leftK HM.out ST.out SB.out HS.out), _, rfl⟩
theorem left_any (h : RingAt w r d k first count tail S t) (ht : tail ≤ 4611686018427387904) (head : Nat) (hh : head < 18446744073709551616) :
    Calls Try.prog 18 #[.pointer (some ⟨r, 0, none⟩), .int .u64 (head : Int)] w fun e w' => e = .returned (.int .i64 ((leftN head tail count : Nat) : Int)) ∧ ∃ m, w' = w.drewN m := left_at h ht head hh _ rfl
end Go.Proofs.Ytllnaocnojhlkaa.Dk
