/- The head of the statements of Mark: two marks, one behind the other. -/
import Derived.Test.YtdjpeebekpjiiaaJ0N
import Derived.Test.YtdjpeebekpjiiaaJ0C
namespace Go.Proofs.Ytdjpeebekpjiiaa.Dk
open Go Go.RowKit
set_option linter.unusedVariables false
set_option linter.unusedSimpArgs false
instance : DecidableEq MkD := fun a b => decidable_of_iff (a.seq = b.seq ∧ a.W = b.W) (by cases a; cases b; simp)
def mk1 : MkD := ⟨1, [5, 6, 0, 0, 0, 0]⟩
def mk2 : MkD := ⟨2, [7, 0, 0, 0, 0, 0]⟩
def mX1 : DS := ((DS.new 2).mark 0 mk1).2
def mX2 : DS := (mX1.mark 0 mk2).2
theorem m0_last : ((DS.new 2).lastMark 0).seq = 0 := by decide +kernel
theorem m0_next : (DS.new 2).next 0 [5, 6] = mk1 := by decide +kernel
theorem m0_code : ((DS.new 2).mark 0 mk1).1 = 0 := by decide +kernel
theorem m0_great : (DS.new 2).great 0 = 0 := by decide +kernel
theorem m1_next : mX1.next 0 [7] = mk2 := by decide +kernel
theorem m1_code : (mX1.mark 0 mk2).1 = 0 := by decide +kernel
theorem m1_great : mX1.great 0 = 1 := by decide +kernel
theorem m1_len : mX1.s.length = 2 := by decide +kernel
theorem m1_up : mX1.down = false := by decide +kernel
theorem m1_S (i : Int) : mX1.S i = none := by kernel_rfl
theorem m2_len : mX2.s.length = 2 := by decide +kernel
theorem m2_up : mX2.down = false := by decide +kernel
theorem m2_last : mX2.lastMark 0 = mk2 := by decide +kernel
end Go.Proofs.Ytdjpeebekpjiiaa.Dk
/- A mark that is laid is read again. -/
namespace Go.Proofs.Ytdjpeebekpjiiaa.Dk
open Go Go.RowKit
set_option linter.unusedVariables false
set_option linter.unusedSimpArgs false
theorem wordN_app (p q r : List UInt8) : ∀ k, k ≤ q.length → wordN (p ++ q ++ r) p.length k = wordN q 0 k
  | 0, _ => rfl
  | k + 1, h => by
    unfold wordN
    rw [wordN_app p q r k (by omega)]
    congr 3
    simp only [List.getD_eq_getElem?_getD, Nat.zero_add]
    rw [List.append_assoc, List.getElem?_append_right (by omega), Nat.add_sub_cancel_left, List.getElem?_append_left (by omega)]
theorem leTo_get (n : Nat) : ∀ k j : Nat, j < k → ((leTo n k).getD j 0).toNat = n / 256 ^ j % 256
  | 0, j, h => absurd h (by omega)
  | k + 1, j, h => by
    unfold leTo
    by_cases hj : j < k
    · rw [List.getD_eq_getElem?_getD, List.getElem?_append_left (by rw [leTo_length]; exact hj), ← List.getD_eq_getElem?_getD]
      exact leTo_get n k j hj
    · obtain rfl : j = k := by omega
      rw [List.getD_eq_getElem?_getD, List.getElem?_append_right (by rw [leTo_length]; exact Nat.le_refl _), leTo_length, Nat.sub_self]
      simp [UInt8.toNat_ofNat']
theorem wordN_leTo (n : Nat) : ∀ k, k ≤ 8 → wordN (leTo n 8) 0 k = n % 256 ^ k
  | 0, _ => by simp [wordN, Nat.mod_one]
  | k + 1, h => by
    unfold wordN
    rw [wordN_leTo n k (by omega), Nat.zero_add, leTo_get n 8 k (by omega), Nat.pow_succ, Nat.mod_mul, Nat.mul_comm]
theorem word_flat : ∀ (Ns : List Nat) (p r : List UInt8) (i : Nat), i < Ns.length → wordN (p ++ ((Ns.map (leTo · 8)).flatten ++ r)) (p.length + 8 * i) 8 = Ns.getD i 0 % 256 ^ 8
  | [], _, _, _, h => absurd h (by simp)
  | n :: Ns, p, r, 0, _ => by
    rw [List.map_cons, List.flatten_cons, Nat.mul_zero, Nat.add_zero, ← List.append_assoc, ← List.append_assoc, List.append_assoc (p ++ leTo n 8)]
    rw [wordN_app p (leTo n 8) _ 8 (by rw [leTo_length]; exact Nat.le_refl _), wordN_leTo n 8 (Nat.le_refl _)]
    rfl
  | n :: Ns, p, r, i + 1, h => by
    have ih := word_flat Ns (p ++ leTo n 8) r i (by simpa using h)
    rw [List.length_append, leTo_length] at ih
    rw [List.map_cons, List.flatten_cons, show p.length + 8 * (i + 1) = p.length + 8 + 8 * i by omega, List.append_assoc (leTo n 8), ← List.append_assoc p, ih]
    rfl
theorem bodyM_flat {mk : MkD} (h : mk.W.length = 6) : bodyM mk 6 = (((mk.seq :: mk.W).map (leTo · 8)).flatten) := by
  unfold bodyM
  rw [List.take_of_length_le (by omega)]
  rfl
theorem layM_word {mk : MkD} (h : mk.Ok) {i : Nat} (hi : i < 7) : wordN (layM mk) (8 * i) 8 = (mk.seq :: mk.W).getD i 0 := by
  have h1 := word_flat (mk.seq :: mk.W) [] (bodyM mk 6 ++ List.replicate 16 0) i (by simp [h.len]; omega)
  rw [List.nil_append, List.length_nil, Nat.zero_add, ← bodyM_flat h.len, ← List.append_assoc] at h1
  unfold layM
  rw [h1]
  refine Nat.mod_eq_of_lt ?_
  have e : (256 : Nat) ^ 8 = 18446744073709551616 := by decide
  rw [e]
  cases i with
  | zero => exact h.seq
  | succ i =>
    have hl : i < mk.W.length := by rw [h.len]; omega
    show mk.W.getD i 0 < _
    rw [List.getD_eq_getElem?_getD, List.getElem?_eq_getElem hl]
    exact h.W _ (List.getElem_mem hl)
/-- A mark that is laid is read again. -/
theorem readM_layM {mk : MkD} (h : mk.Ok) : readM (layM mk) = mk := by
  obtain ⟨s, W⟩ := mk
  have h0 := layM_word h (i := 0) (by decide)
  unfold readM
  have hW : ((List.range 6).map fun i => wordN (layM ⟨s, W⟩) (8 * (1 + i)) 8) = W := by
    have hl : W.length = 6 := h.len
    apply List.ext_getElem (by simp [hl])
    intro i h1 h2
    rw [List.getElem_map, List.getElem_range, layM_word h (by simp at h1; omega)]
    rw [Nat.add_comm 1 i]
    show W.getD i 0 = _
    rw [List.getD_eq_getElem?_getD, List.getElem?_eq_getElem h2]
    rfl
  rw [hW]
  have : wordN (layM ⟨s, W⟩) 0 8 = s := h0
  rw [this]
theorem layM_second {mk : MkD} (h : mk.Ok) : wordN (layM mk) 56 8 = mk.seq := by
  have h1 := word_flat (mk.seq :: mk.W) (bodyM mk 6) (List.replicate 16 0) 0 (by simp)
  rw [bodyM_length h.len (Nat.le_refl _), ← bodyM_flat h.len, ← List.append_assoc] at h1
  unfold layM
  have e : (256 : Nat) ^ 8 = 18446744073709551616 := by decide
  rw [show 8 * (1 + 6) + 8 * 0 = 56 from rfl] at h1
  rw [h1, e]
  exact Nat.mod_eq_of_lt h.seq
/-- Where a mark stands on its own sector, it is one. -/
theorem isM_layM {mk : MkD} (h : mk.Ok) (i : Nat) : isM (layM mk) i ↔ mk.seq % 2 = i := by
  unfold isM
  rw [readM_layM h]
  simp
end Go.Proofs.Ytdjpeebekpjiiaa.Dk
/- Which mark is the last one on two sectors, and the greatest number on them. -/
namespace Go.Proofs.Ytdjpeebekpjiiaa.Dk
open Go Go.RowKit
set_option linter.unusedVariables false
set_option linter.unusedSimpArgs false
/-- The number of the mark on a sector; none is 0. -/
def seqAt (s : List UInt8) (i : Nat) : Nat := if isM s i then (readM s).seq else 0
theorem last_fst {mk : MkD} (h : mk.Ok) (he : mk.seq % 2 = 0) (hp : 0 < mk.seq) {b : List UInt8} (hb : seqAt b 1 ≤ mk.seq) : lastM (layM mk) b 2 = mk := by
  have h1 : lastM (layM mk) b 1 = mk := by
    unfold lastM
    have hs : sel (layM mk) b 0 = layM mk := rfl
    rw [hs, readM_layM h, if_pos ⟨(isM_layM h 0).2 he, hp⟩]
  unfold lastM
  rw [h1]
  have hs : sel (layM mk) b 1 = b := rfl
  rw [hs]
  refine if_neg (fun hc => ?_)
  unfold seqAt at hb
  rw [if_pos hc.1] at hb
  have := hc.2
  omega
theorem last_snd {mk : MkD} (h : mk.Ok) (he : mk.seq % 2 = 1) {a : List UInt8} (ha : seqAt a 0 < mk.seq) : lastM a (layM mk) 2 = mk := by
  unfold lastM
  have hs : sel a (layM mk) 1 = layM mk := rfl
  rw [hs, readM_layM h]
  refine if_pos ⟨(isM_layM h 1).2 he, ?_⟩
  unfold lastM
  have hs0 : sel a (layM mk) 0 = a := rfl
  rw [hs0]
  split
  · rename_i hc
    unfold seqAt at ha
    rwa [if_pos hc.1] at ha
  · show noM.seq < _
    have : noM.seq = 0 := rfl
    omega
/-- What is no mark on either sector leaves none. -/
theorem last_none {a b : List UInt8} (ha : seqAt a 0 = 0) (hb : seqAt b 1 = 0) : lastM a b 2 = noM := by
  have h1 : lastM a b 1 = noM := by
    unfold lastM
    have hs0 : sel a b 0 = a := rfl
    rw [hs0]
    refine if_neg (fun hc => ?_)
    unfold seqAt at ha
    rw [if_pos hc.1] at ha
    have := hc.2
    omega
  unfold lastM
  have hs : sel a b 1 = b := rfl
  rw [h1, hs]
  refine if_neg (fun hc => ?_)
  unfold seqAt at hb
  rw [if_pos hc.1] at hb
  have := hc.2
  omega
theorem seqAt_layM {mk : MkD} (h : mk.Ok) (i : Nat) : seqAt (layM mk) i = if mk.seq % 2 = i then mk.seq else 0 := by
  unfold seqAt
  rw [readM_layM h]
  by_cases hi : mk.seq % 2 = i
  · rw [if_pos ((isM_layM h i).2 hi), if_pos hi]
  · rw [if_neg (fun hc => hi ((isM_layM h i).1 hc)), if_neg hi]
theorem seqAt_zeros (i : Nat) : seqAt zeros i = 0 := by
  have : readM zeros = noM := by decide +kernel
  unfold seqAt
  split
  · rw [this]; rfl
  · rfl
/-- The number of a mark never passes the first word of its sector. -/
theorem seqAt_le (s : List UInt8) (i : Nat) : seqAt s i ≤ wordN s 0 8 := by
  unfold seqAt
  split
  · exact Nat.le_refl _
  · exact Nat.zero_le _
/-- The greatest of the two words of a sector where a mark's number stands. -/
def topAt (s : List UInt8) : Nat := max (wordN s 0 8) (wordN s 56 8)
theorem greatN_eq (a b : List UInt8) : greatN a b 2 = max (topAt a) (topAt b) := by
  have h2 : greatN a b 2 = max (max (greatN a b 1) (wordN b 0 8)) (wordN b 56 8) := rfl
  have h1 : greatN a b 1 = max (max (greatN a b 0) (wordN a 0 8)) (wordN a 56 8) := rfl
  have h0 : greatN a b 0 = 0 := rfl
  rw [h2, h1, h0]
  unfold topAt
  generalize wordN a 0 8 = p
  generalize wordN a 56 8 = q
  generalize wordN b 0 8 = r
  generalize wordN b 56 8 = t
  omega
theorem topAt_layM {mk : MkD} (h : mk.Ok) : topAt (layM mk) = mk.seq := by
  have h0 := layM_word h (i := 0) (by decide)
  rw [Nat.mul_zero, List.getD_cons_zero] at h0
  unfold topAt
  rw [layM_second h, h0]
  exact Nat.max_self _
theorem topAt_zeros : topAt zeros = 0 := by decide +kernel
end Go.Proofs.Ytdjpeebekpjiiaa.Dk
/- What a disk is behind a mark that was written. -/
namespace Go.Proofs.Ytdjpeebekpjiiaa.Dk
open Go Go.RowKit
set_option linter.unusedVariables false
set_option linter.unusedSimpArgs false
theorem laid_one (s : List (List UInt8)) {S : Int → Option (List UInt8)} (hS : ∀ i, S i = none) (k : Nat) (b : List UInt8) : laid s (upd S (k : Int) b) (fun _ => false) = s.set k b := by
  unfold laid
  apply List.ext_getElem?
  intro i
  rw [List.getElem?_mapIdx, List.getElem?_set]
  by_cases hi : k = i
  · subst hi
    rw [if_pos rfl]
    by_cases hl : k < s.length
    · rw [if_pos hl, List.getElem?_eq_getElem hl]
      simp [upd]
    · rw [if_neg hl, List.getElem?_eq_none (by omega)]
      rfl
  · rw [if_neg hi]
    have hne : ¬ (i : Int) = (k : Int) := by omega
    cases h : s[i]? with
    | none => rfl
    | some b' => simp [upd, hne, hS]
/-- A disk that is up, with nothing pending. -/
structure Calm (x : DS) : Prop where
  up : x.down = false
  S : ∀ i, x.S i = none
theorem Calm.read {x : DS} (h : Calm x) {i : Nat} (hi : i < x.s.length) : (x.read (i : Int)).1 = x.s.getD i [] := by
  unfold DS.read
  rw [if_neg (by rw [h.up]; decide), h.S]
  unfold DS.sure
  have : x.has (i : Int) = true := by simp [DS.has]; omega
  rw [if_neg (by rw [this]; decide)]
  rfl
/-- A mark that is written with the power there. -/
theorem mark_fine {x : DS} (h : Calm x) {first : Nat} {mk : MkD} (hm : mk.Ok) (hr : first + 2 ≤ x.s.length) (hf : x.fuse < 0 ∨ 2 ≤ x.fuse) :
    (x.mark first mk).1 = 0 ∧ Calm (x.mark first mk).2 ∧ (x.mark first mk).2.s = x.s.set (first + mk.seq % 2) (layM mk) ∧ (x.mark first mk).2.fuse = (if x.fuse < 0 then x.fuse else x.fuse - 2) := by
  have hl := layM_length hm.len
  have h2 : mk.seq % 2 < 2 := Nat.mod_lt _ (by decide)
  have hhas : x.has (mk.at_ first) = true := by
    unfold DS.has MkD.at_
    simp only [Bool.and_eq_true, decide_eq_true_eq]
    omega
  have h0 : x.fuse ≠ 0 := by omega
  have hc : x.wcode (mk.at_ first) 128 = 0 := by simp [DS.wcode, h.up, hhas, h0]
  have hw : x.write (mk.at_ first) (layM mk) = { x.spend with S := upd x.S (mk.at_ first) (layM mk), wr := wrap64 (x.wr + 1) } := by simp [DS.write, h.up, hhas, h0, hl]
  unfold DS.mark
  rw [if_pos hc, hw]
  rcases hf with hf | hf
  · have hs : x.spend = x := by unfold DS.spend; rw [if_neg h0, if_neg (by omega)]
    rw [hs]
    refine ⟨by simp [DS.fcode, h.up, h0], ⟨?_, ?_⟩, ?_, ?_⟩ <;> simp [DS.flush, DS.spend, h.up, h0, show ¬ 0 < x.fuse by omega, hf]
    exact laid_one x.s h.S _ _
  · have hs : x.spend = { x with fuse := x.fuse - 1 } := by unfold DS.spend; rw [if_neg h0, if_pos (by omega)]
    rw [hs]
    have h1 : ¬ x.fuse - 1 = 0 := by omega
    have h3 : 1 < x.fuse := by omega
    have h4 : ¬ x.fuse < 0 := by omega
    refine ⟨by simp [DS.fcode, h.up, h1], ⟨?_, ?_⟩, ?_, ?_⟩ <;> simp [DS.flush, DS.spend, h.up, h1, h3, h4]
    · exact laid_one x.s h.S _ _
    · omega
theorem Calm.last {x : DS} (h : Calm x) {first : Nat} (hr : first + 2 ≤ x.s.length) : x.lastMark first = lastM (x.s.getD first []) (x.s.getD (first + 1) []) 2 := by
  unfold DS.lastMark
  rw [h.read (by omega), h.read (by omega)]
theorem Calm.great {x : DS} (h : Calm x) {first : Nat} (hr : first + 2 ≤ x.s.length) : x.great first = max (topAt (x.s.getD first [])) (topAt (x.s.getD (first + 1) [])) := by
  unfold DS.great
  rw [h.read (by omega), h.read (by omega), greatN_eq]
theorem seqAt_top (s : List UInt8) (i : Nat) : seqAt s i ≤ topAt s := Nat.le_trans (seqAt_le s i) (Nat.le_max_left _ _)
theorem getD_set_self {l : List (List UInt8)} {k : Nat} {b : List UInt8} (h : k < l.length) : (l.set k b).getD k [] = b := by
  rw [List.getD_eq_getElem?_getD, List.getElem?_set, if_pos rfl, if_pos h]
  rfl
theorem getD_set_ne' {l : List (List UInt8)} {k j : Nat} {b : List UInt8} (h : k ≠ j) : (l.set k b).getD j [] = l.getD j [] := by
  rw [List.getD_eq_getElem?_getD, List.getElem?_set, if_neg h, ← List.getD_eq_getElem?_getD]
/-- A mark with a greater number than all that stand there is the last one, once it stands on its sector. -/
theorem last_set {x x' : DS} (h : Calm x) (h' : Calm x') {first : Nat} {mk : MkD} (hm : mk.Ok) (hr : first + 2 ≤ x.s.length) (hs : x'.s = x.s.set (first + mk.seq % 2) (layM mk)) (hg : x.great first < mk.seq) :
    x'.lastMark first = mk ∧ x'.great first = mk.seq := by
  have hl : x'.s.length = x.s.length := by rw [hs, List.length_set]
  rw [h.great hr] at hg
  rw [h'.last (by omega), h'.great (by omega)]
  have h2 : mk.seq % 2 = 0 ∨ mk.seq % 2 = 1 := by omega
  rcases h2 with h2 | h2
  · rw [h2, Nat.add_zero] at hs
    rw [hs, getD_set_self (by omega), getD_set_ne' (by omega)]
    have h3 := seqAt_top (x.s.getD (first + 1) []) 1
    refine ⟨last_fst hm h2 (by omega) (by omega), ?_⟩
    rw [topAt_layM hm]
    omega
  · rw [h2] at hs
    rw [hs, getD_set_self (by omega), getD_set_ne' (by omega)]
    have h3 := seqAt_top (x.s.getD first []) 0
    refine ⟨last_snd hm h2 (by omega), ?_⟩
    rw [topAt_layM hm]
    omega
/-- The next mark is one, and its number is greater than all that stand there. -/
theorem next_ok {x : DS} {first : Nat} {ws : List Nat} (h6 : ws.length ≤ 6) (hws : ∀ u ∈ ws, u < 18446744073709551616) (hg : x.great first ≤ 18446744073709551613) : (x.next first ws).Ok ∧ x.great first < (x.next first ws).seq := by
  have h1 : x.great first < x.nextSeq first ∧ x.nextSeq first ≤ x.great first + 2 := by
    unfold DS.nextSeq
    split <;> omega
  refine ⟨⟨?_, ?_, fun u hu => ?_⟩, h1.1⟩
  · show x.nextSeq first < _
    omega
  · show (ws ++ List.replicate (6 - ws.length) 0).length = 6
    simp
    omega
  · rcases List.mem_append.1 hu with h | h
    · exact hws u h
    · rw [(List.mem_replicate.1 h).2]; decide
/-- A mark by whose writing the power goes. -/
theorem mark_cut {x : DS} (h : Calm x) {first : Nat} {mk : MkD} (hm : mk.Ok) (hr : first + 2 ≤ x.s.length) (hf : x.fuse = 0 ∨ x.fuse = 1) :
    (x.mark first mk).1 = 50 ∧ (x.mark first mk).2.down = true ∧ (x.mark first mk).2.s = x.s ∧ ∀ i l, (x.mark first mk).2.S i = some l → i = mk.at_ first ∧ l = layM mk := by
  have hl := layM_length hm.len
  have h2 : mk.seq % 2 < 2 := Nat.mod_lt _ (by decide)
  have hhas : x.has (mk.at_ first) = true := by
    unfold DS.has MkD.at_
    simp only [Bool.and_eq_true, decide_eq_true_eq]
    omega
  rcases hf with hf | hf
  · have hc : x.wcode (mk.at_ first) 128 = 50 := by simp [DS.wcode, h.up, hhas, hf]
    have hw : x.write (mk.at_ first) (layM mk) = x.spend := by simp [DS.write, h.up, hhas, hf, hl]
    have hs : x.spend = { x with fuse := -1, down := true } := by unfold DS.spend; rw [if_pos hf]
    unfold DS.mark
    rw [hc, if_neg (by decide), hw, hs]
    refine ⟨rfl, rfl, rfl, fun i l hi => ?_⟩
    have : x.S i = some l := hi
    rw [h.S] at this
    cases this
  · have h0 : x.fuse ≠ 0 := by omega
    have hc : x.wcode (mk.at_ first) 128 = 0 := by simp [DS.wcode, h.up, hhas, h0]
    have hw : x.write (mk.at_ first) (layM mk) = { x.spend with S := upd x.S (mk.at_ first) (layM mk), wr := wrap64 (x.wr + 1) } := by simp [DS.write, h.up, hhas, h0, hl]
    have hs : x.spend = { x with fuse := 0 } := by unfold DS.spend; rw [if_neg h0, if_pos (by omega), hf]; rfl
    unfold DS.mark
    rw [if_pos hc, hw, hs]
    refine ⟨by simp [DS.fcode], by simp [DS.flush, DS.spend, h.up], by simp [DS.flush, DS.spend, h.up], fun i l hi => ?_⟩
    have h3 : upd x.S (mk.at_ first) (layM mk) i = some l := by simpa [DS.flush, DS.spend, h.up] using hi
    unfold upd at h3
    split at h3
    · rename_i he
      cases h3
      exact ⟨he, rfl⟩
    · rw [h.S] at h3; cases h3
/-- A crash that keeps nothing, and the power back. -/
theorem crash_up {y : DS} (h : y.S (-1) = none) (at_ : Int) : Calm (y.crash [] (-1) at_).up ∧ (y.crash [] (-1) at_).up.s = y.s ∧ (y.crash [] (-1) at_).down = true ∧ (y.crash [] (-1) at_).s = y.s := by
  have h1 : y.settle (-1) at_ = y := by unfold DS.settle; rw [h]
  have h2 : y.crash [] (-1) at_ = { y with S := fun _ => none, fuse := -1, down := true } := by
    unfold DS.crash
    rw [List.foldl_nil, h1]
  rw [h2]
  refine ⟨⟨rfl, fun _ => rfl⟩, rfl, rfl, rfl⟩
end Go.Proofs.Ytdjpeebekpjiiaa.Dk
