/- What a disk is behind a mark that was written. -/
import Derived.Test.YtgbmkolpdnenlaaMo
namespace Go.Proofs.Ytgbmkolpdnenlaa.Dk
open Go Go.RowKit
set_option linter.unusedVariables false
set_option linter.unusedSimpArgs false
theorem laid_one (s : List (List UInt8)) {S : Int → Option (List UInt8)} (hS : ∀ i, S i = none) (k : Nat) (b : List UInt8) : laid s (upd S (k : Int) b) (fun _ => false) = s.set k b := by
  unfold laid
  apply List.ext_getElem?
  intro i
  rw [List.getElem?_mapIdx, List.getElem?_set]
  by_cases hi : k = i
  · subst hi
    rw [if_pos rfl]
    by_cases hl : k < s.length
    · rw [if_pos hl, List.getElem?_eq_getElem hl]
      simp [upd]
    · rw [if_neg hl, List.getElem?_eq_none (by omega)]
      rfl
  · rw [if_neg hi]
    have hne : ¬ (i : Int) = (k : Int) := by omega
    cases h : s[i]? with
    | none => rfl
    | some b' => simp [upd, hne, hS]
/-- A disk that is up, with nothing pending. -/
structure Calm (x : DS) : Prop where
  up : x.down = false
  S : ∀ i, x.S i = none
theorem Calm.read {x : DS} (h : Calm x) {i : Nat} (hi : i < x.s.length) : (x.read (i : Int)).1 = x.s.getD i [] := by
  unfold DS.read
  rw [if_neg (by rw [h.up]; decide), h.S]
  unfold DS.sure
  have : x.has (i : Int) = true := by simp [DS.has]; omega
  rw [if_neg (by rw [this]; decide)]
  rfl
/-- A mark that is written with the power there. -/
theorem mark_fine {x : DS} (h : Calm x) {first : Nat} {mk : MkD} (hm : mk.Ok) (hr : first + 2 ≤ x.s.length) (hf : x.fuse < 0 ∨ 2 ≤ x.fuse) :
    (x.mark first mk).1 = 0 ∧ Calm (x.mark first mk).2 ∧ (x.mark first mk).2.s = x.s.set (first + mk.seq % 2) (layM mk) ∧ (x.mark first mk).2.fuse = (if x.fuse < 0 then x.fuse else x.fuse - 2) := by
  have hl := layM_length hm.len
  have h2 : mk.seq % 2 < 2 := Nat.mod_lt _ (by decide)
  have hhas : x.has (mk.at_ first) = true := by
    unfold DS.has MkD.at_
    simp only [Bool.and_eq_true, decide_eq_true_eq]
    omega
  have h0 : x.fuse ≠ 0 := by omega
  have hc : x.wcode (mk.at_ first) 128 = 0 := by simp [DS.wcode, h.up, hhas, h0]
  have hw : x.write (mk.at_ first) (layM mk) = { x.spend with S := upd x.S (mk.at_ first) (layM mk), wr := wrap64 (x.wr + 1) } := by simp [DS.write, h.up, hhas, h0, hl]
  unfold DS.mark
  rw [if_pos hc, hw]
  rcases hf with hf | hf
  · have hs : x.spend = x := by unfold DS.spend; rw [if_neg h0, if_neg (by omega)]
    rw [hs]
    refine ⟨by simp [DS.fcode, h.up, h0], ⟨?_, ?_⟩, ?_, ?_⟩ <;> simp [DS.flush, DS.spend, h.up, h0, show ¬ 0 < x.fuse by omega, hf]
    exact laid_one x.s h.S _ _
  · have hs : x.spend = { x with fuse := x.fuse - 1 } := by unfold DS.spend; rw [if_neg h0, if_pos (by omega)]
    rw [hs]
    have h1 : ¬ x.fuse - 1 = 0 := by omega
    have h3 : 1 < x.fuse := by omega
    have h4 : ¬ x.fuse < 0 := by omega
    refine ⟨by simp [DS.fcode, h.up, h1], ⟨?_, ?_⟩, ?_, ?_⟩ <;> simp [DS.flush, DS.spend, h.up, h1, h3, h4]
    · exact laid_one x.s h.S _ _
    · omega
theorem Calm.last {x : DS} (h : Calm x) {first : Nat} (hr : first + 2 ≤ x.s.length) : x.lastMark first = lastM (x.s.getD first []) (x.s.getD (first + 1) []) 2 := by
  unfold DS.lastMark
  rw [h.read (by omega), h.read (by omega)]
theorem Calm.great {x : DS} (h : Calm x) {first : Nat} (hr : first + 2 ≤ x.s.length) : x.great first = max (topAt (x.s.getD first [])) (topAt (x.s.getD (first + 1) [])) := by
  unfold DS.great
  rw [h.read (by omega), h.read (by omega), greatN_eq]
theorem seqAt_top (s : List UInt8) (i : Nat) : seqAt s i ≤ topAt s := Nat.le_trans (seqAt_le s i) (Nat.le_max_left _ _)
theorem getD_set_self {l : List (List UInt8)} {k : Nat} {b : List UInt8} (h : k < l.length) : (l.set k b).getD k [] = b := by
  rw [List.getD_eq_getElem?_getD, List.getElem?_set, if_pos rfl, if_pos h]
  rfl
theorem getD_set_ne' {l : List (List UInt8)} {k j : Nat} {b : List UInt8} (h : k ≠ j) : (l.set k b).getD j [] = l.getD j [] := by
  rw [List.getD_eq_getElem?_getD, List.getElem?_set, if_neg h, ← List.getD_eq_getElem?_getD]
/-- A mark with a greater number than all that stand there is the last one, once it stands on its sector. -/
theorem last_set {x x' : DS} (h : Calm x) (h' : Calm x') {first : Nat} {mk : MkD} (hm : mk.Ok) (hr : first + 2 ≤ x.s.length) (hs : x'.s = x.s.set (first + mk.seq % 2) (layM mk)) (hg : x.great first < mk.seq) :
    x'.lastMark first = mk ∧ x'.great first = mk.seq := by
  have hl : x'.s.length = x.s.length := by rw [hs, List.length_set]
  rw [h.great hr] at hg
  rw [h'.last (by omega), h'.great (by omega)]
  have h2 : mk.seq % 2 = 0 ∨ mk.seq % 2 = 1 := by omega
  rcases h2 with h2 | h2
  · rw [h2, Nat.add_zero] at hs
    rw [hs, getD_set_self (by omega), getD_set_ne' (by omega)]
    have h3 := seqAt_top (x.s.getD (first + 1) []) 1
    refine ⟨last_fst hm h2 (by omega) (by omega), ?_⟩
    rw [topAt_layM hm]
    omega
  · rw [h2] at hs
    rw [hs, getD_set_self (by omega), getD_set_ne' (by omega)]
    have h3 := seqAt_top (x.s.getD first []) 0
    refine ⟨last_snd hm h2 (by omega), ?_⟩
    rw [topAt_layM hm]
    omega
/-- The next mark is one, and its number is greater than all that stand there. -/
theorem next_ok {x : DS} {first : Nat} {ws : List Nat} (h6 : ws.length ≤ 6) (hws : ∀ u ∈ ws, u < 18446744073709551616) (hg : x.great first ≤ 18446744073709551613) : (x.next first ws).Ok ∧ x.great first < (x.next first ws).seq := by
  have h1 : x.great first < x.nextSeq first ∧ x.nextSeq first ≤ x.great first + 2 := by
    unfold DS.nextSeq
    split <;> omega
  refine ⟨⟨?_, ?_, fun u hu => ?_⟩, h1.1⟩
  · show x.nextSeq first < _
    omega
  · show (ws ++ List.replicate (6 - ws.length) 0).length = 6
    simp
    omega
  · rcases List.mem_append.1 hu with h | h
    · exact hws u h
    · rw [(List.mem_replicate.1 h).2]; decide
/-- A mark by whose writing the power goes. -/
theorem mark_cut {x : DS} (h : Calm x) {first : Nat} {mk : MkD} (hm : mk.Ok) (hr : first + 2 ≤ x.s.length) (hf : x.fuse = 0 ∨ x.fuse = 1) :
    (x.mark first mk).1 = 50 ∧ (x.mark first mk).2.down = true ∧ (x.mark first mk).2.s = x.s ∧ ∀ i l, (x.mark first mk).2.S i = some l → i = mk.at_ first ∧ l = layM mk := by
  have hl := layM_length hm.len
  have h2 : mk.seq % 2 < 2 := Nat.mod_lt _ (by decide)
  have hhas : x.has (mk.at_ first) = true := by
    unfold DS.has MkD.at_
    simp only [Bool.and_eq_true, decide_eq_true_eq]
    omega
  rcases hf with hf | hf
  · have hc : x.wcode (mk.at_ first) 128 = 50 := by simp [DS.wcode, h.up, hhas, hf]
    have hw : x.write (mk.at_ first) (layM mk) = x.spend := by simp [DS.write, h.up, hhas, hf, hl]
    have hs : x.spend = { x with fuse := -1, down := true } := by unfold DS.spend; rw [if_pos hf]
    unfold DS.mark
    rw [hc, if_neg (by decide), hw, hs]
    refine ⟨rfl, rfl, rfl, fun i l hi => ?_⟩
    have : x.S i = some l := hi
    rw [h.S] at this
    cases this
  · have h0 : x.fuse ≠ 0 := by omega
    have hc : x.wcode (mk.at_ first) 128 = 0 := by simp [DS.wcode, h.up, hhas, h0]
    have hw : x.write (mk.at_ first) (layM mk) = { x.spend with S := upd x.S (mk.at_ first) (layM mk), wr := wrap64 (x.wr + 1) } := by simp [DS.write, h.up, hhas, h0, hl]
    have hs : x.spend = { x with fuse := 0 } := by unfold DS.spend; rw [if_neg h0, if_pos (by omega), hf]; rfl
    unfold DS.mark
    rw [if_pos hc, hw, hs]
    refine ⟨by simp [DS.fcode], by simp [DS.flush, DS.spend, h.up], by simp [DS.flush, DS.spend, h.up], fun i l hi => ?_⟩
    have h3 : upd x.S (mk.at_ first) (layM mk) i = some l := by simpa [DS.flush, DS.spend, h.up] using hi
    unfold upd at h3
    split at h3
    · rename_i he
      cases h3
      exact ⟨he, rfl⟩
    · rw [h.S] at h3; cases h3
/-- A crash that keeps nothing, and the power back. -/
theorem crash_up {y : DS} (h : y.S (-1) = none) (at_ : Int) : Calm (y.crash [] (-1) at_).up ∧ (y.crash [] (-1) at_).up.s = y.s ∧ (y.crash [] (-1) at_).down = true ∧ (y.crash [] (-1) at_).s = y.s := by
  have h1 : y.settle (-1) at_ = y := by unfold DS.settle; rw [h]
  have h2 : y.crash [] (-1) at_ = { y with S := fun _ => none, fuse := -1, down := true } := by
    unfold DS.crash
    rw [List.foldl_nil, h1]
  rw [h2]
  refine ⟨⟨rfl, fun _ => rfl⟩, rfl, rfl, rfl⟩
end Go.Proofs.Ytgbmkolpdnenlaa.Dk
