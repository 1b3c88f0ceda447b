/- What of a text survives a crash: lists and numbers alone. -/
import Derived.Test.YtllnaocnojhlkaaVd
import Derived.Test.YtllnaocnojhlkaaDu
namespace Go.Proofs.Ytllnaocnojhlkaa.Dk
open Go Go.RowKit
set_option linter.unusedVariables false
set_option linter.unusedSimpArgs false

/-- A disk of six sectors, on whose five last ones each byte of F stands, durable, and in whatever is written over it. -/
structure Ag (x : DS) (F : List UInt8) : Prop where
  n : x.s.length = 6
  len : ∀ b ∈ x.s, b.length = 128
  wl : ∀ i l, x.S i = some l → l.length = 128 ∧ 0 ≤ i ∧ i < 6
  sure : ∀ p, p < F.length → (x.s.getD (1 + p / 128) []).getD (p % 128) 0 = F.getD p 0
  wr : ∀ i l, x.S i = some l → ∀ p, p < F.length → ((1 + p / 128 : Nat) : Int) = i → l.getD (p % 128) 0 = F.getD p 0
theorem sec5 {p : Nat} (h : p < 640) : sec 1 5 p = 1 + p / 128 := by
  unfold sec
  rw [Nat.mod_eq_of_lt (by omega)]
theorem spend_same (x : DS) : x.spend.s = x.s ∧ x.spend.S = x.S := by
  unfold DS.spend
  split
  · exact ⟨rfl, rfl⟩
  · split <;> exact ⟨rfl, rfl⟩
theorem Ag.same {x y : DS} {F : List UInt8} (h : Ag x F) (h1 : y.s = x.s) (h2 : y.S = x.S) : Ag y F :=
  ⟨by rw [h1]; exact h.n, by rw [h1]; exact h.len, by rw [h2]; exact h.wl, by rw [h1]; exact h.sure, by rw [h2]; exact h.wr⟩
theorem Ag.write {x : DS} {F : List UInt8} (h : Ag x F) {i : Nat} {b : List UInt8} (hb : ∀ p, p < F.length → 1 + p / 128 = i → b.getD (p % 128) 0 = F.getD p 0) : Ag (x.write (i : Int) b) F := by
  have hsp := spend_same x
  unfold DS.write
  by_cases c1 : x.down = true
  · rw [if_pos c1]; exact h
  rw [if_neg c1]
  by_cases c2 : x.has (i : Int) = false
  · rw [if_pos c2]; exact h
  rw [if_neg c2]
  by_cases c3 : 128 < b.length
  · rw [if_pos c3]; exact h
  rw [if_neg c3]
  by_cases c4 : b.length < 128
  · rw [if_pos c4]; exact h
  rw [if_neg c4]
  by_cases c5 : x.fuse = 0
  · rw [if_pos c5]; exact h.same hsp.1 hsp.2
  rw [if_neg c5]
  have hi : i < 6 := by
    have : x.has (i : Int) = true := by simpa using c2
    simp [DS.has, h.n] at this
    omega
  refine ⟨by show x.spend.s.length = 6; rw [hsp.1]; exact h.n, by show ∀ b ∈ x.spend.s, _; rw [hsp.1]; exact h.len, fun j l hl => ?_, by show ∀ p, p < F.length → (x.spend.s.getD _ []).getD _ 0 = _; rw [hsp.1]; exact h.sure, fun j l hl p hp hj => ?_⟩
  · simp only [upd] at hl
    split at hl
    · cases hl
      exact ⟨by omega, by omega, by omega⟩
    · exact h.wl j l hl
  · simp only [upd] at hl
    split at hl
    · rename_i e
      cases hl
      exact hb p hp (by omega)
    · exact h.wr j l hl p hp hj
theorem pad_getD0 {b : List UInt8} {j : Nat} (hb : j < b.length) (hj : j < 128) : (pad b).getD j 0 = b.getD j 0 := pad_getD hj hb
/-- Bytes that are laid over it, so they are F's where F is. -/
theorem lays_ag {F : List UInt8} : ∀ (f : Nat) (x : DS) (at_ : Nat) (b : List UInt8), Ag x F → at_ % 128 = 0 → at_ + b.length ≤ 640 → F.length ≤ at_ + b.length → (∀ p, p < F.length → at_ ≤ p → b.getD (p - at_) 0 = F.getD p 0) →
    Ag (lays 1 5 f x at_ b).1 F
  | 0, x, at_, b, h, _, _, _, _ => h
  | f + 1, x, at_, b, h, ha, h1, h2, h3 => by
    by_cases hb : b = []
    · subst hb
      simpa [lays] using h
    have hp : 0 < b.length := by cases b with | nil => exact absurd rfl hb | cons a l => simp
    have hs : sec 1 5 at_ = 1 + at_ / 128 := sec5 (by omega)
    have hw : Ag (x.write (sec 1 5 at_ : Nat) (pad b)) F := by
      refine h.write (fun p hpF hps => ?_)
      rw [hs] at hps
      have hge : at_ ≤ p := by omega
      have h4 := h3 p hpF hge
      rw [← h4]
      have e : p - at_ = p % 128 := by omega
      rw [e]
      exact pad_getD (by omega) (by omega)
    rw [lays, if_neg hb]
    split
    · by_cases h128 : 128 ≤ b.length
      · refine lays_ag f _ (at_ + 128) (b.drop 128) hw (by omega) (by rw [List.length_drop]; omega) (by rw [List.length_drop]; omega) (fun p hpF hge => ?_)
        have h4 := h3 p hpF (by omega)
        rw [← h4]
        simp only [List.getD, List.getElem?_drop]
        rw [show 128 + (p - (at_ + 128)) = p - at_ by omega]
      · rw [show b.drop 128 = [] from List.drop_eq_nil_of_le (by omega), lays_nil]
        exact hw
    · exact hw
theorem Ag.settle {x : DS} {F : List UInt8} (h : Ag x F) (i a : Int) : Ag (x.settle i a) F := by
  unfold DS.settle
  cases hs : x.S i with
  | none => exact h
  | some l =>
    obtain ⟨w1, w2, w3⟩ := h.wl i l hs
    obtain ⟨k, rfl⟩ : ∃ k : Nat, i = (k : Int) := ⟨i.toNat, by omega⟩
    have hk : k < x.s.length := by rw [h.n]; omega
    have hkl : (x.s.getD k []).length = 128 := h.len _ (by simp [List.getD, hk])
    obtain ⟨q, hq⟩ : ∃ q, q = (min (max a 0) 128).toNat := ⟨_, rfl⟩
    have hq2 : q ≤ 128 := by omega
    simp only [Int.toNat_natCast, ← hq]
    have hnl : (l.take q ++ (x.s.getD k []).drop q).length = 128 := by rw [List.length_append, List.length_take, List.length_drop, hkl, w1]; omega
    refine ⟨by simpa using h.n, fun b hb => ?_, fun j l' hl' => h.wl j l' (by exact hl'), fun p hp => ?_, h.wr⟩
    · rcases List.mem_or_eq_of_mem_set hb with hb | rfl
      · exact h.len b hb
      · exact hnl
    · have h1 := h.sure p hp
      show ((x.s.set k _).getD _ []).getD _ 0 = _
      by_cases e : 1 + p / 128 = k
      · rw [e] at h1 ⊢
        have h2 := h.wr _ l hs p hp (by rw [e])
        have hg : (x.s.set k (l.take q ++ (x.s.getD k []).drop q)).getD k [] = l.take q ++ (x.s.getD k []).drop q := by simp [List.getD, hk]
        rw [hg]
        have hpm := Nat.mod_lt p (show 0 < 128 by decide)
        by_cases hlt : p % 128 < q
        · rw [← h2]
          simp only [List.getD]
          rw [List.getElem?_append_left (by rw [List.length_take, w1]; omega), List.getElem?_take, if_pos hlt]
        · rw [← h1]
          have hlq : (l.take q).length = q := by rw [List.length_take, w1]; omega
          simp only [List.getD]
          rw [List.getElem?_append_right (by rw [hlq]; omega), List.getElem?_drop, hlq]
          rw [show q + (p % 128 - q) = p % 128 by omega]
      · rw [← h1]
        congr 1
        simp only [List.getD]
        rw [List.getElem?_set_ne (fun h => e h.symm)]
theorem Ag.settles {F : List UInt8} (K : List Int) : ∀ x : DS, Ag x F → Ag (K.foldl (fun y i => y.settle i 128) x) F := by
  induction K with
  | nil => exact fun x h => h
  | cons k K ih => exact fun x h => ih _ (h.settle k 128)
/-- Behind a crash, and with the power there again, F is there. -/
theorem Ag.crash {x : DS} {F : List UInt8} (h : Ag x F) (K : List Int) (tear a : Int) : Good (x.crash K tear a).up 6 ∧ ∀ p, p < F.length → (((x.crash K tear a).up.read ((1 + p / 128 : Nat) : Int)).1).getD (p % 128) 0 = F.getD p 0 := by
  have h1 := (h.settles K x).settle tear a
  generalize he : (K.foldl (fun y i => y.settle i 128) x).settle tear a = y at h1
  have e : (x.crash K tear a).up = { y with S := fun _ => none, fuse := -1, down := false } := by
    unfold DS.crash DS.up
    rw [he]
    simp
  rw [e]
  refine ⟨⟨rfl, rfl, h1.n, h1.len, fun i l hl => by simp at hl⟩, fun p hp => ?_⟩
  rw [← h1.sure p hp]
  unfold DS.read DS.sure DS.has
  have hh : F.length ≤ 640 ∨ ¬ (1 + p / 128 < 6) ∨ True := .inr (.inr trivial)
  by_cases hb : 1 + p / 128 < 6
  · simp only [h1.n, Int.toNat_natCast, if_neg (show ¬ (false = true) by decide)]
    rw [if_neg]
    simp
    omega
  · have : (y.s.getD (1 + p / 128) []) = [] := by unfold List.getD; rw [List.getElem?_eq_none (by rw [h1.n]; omega)]; rfl
    simp only [h1.n, Int.toNat_natCast, if_neg (show ¬ (false = true) by decide)]
    rw [if_pos (by simp; omega), this]
/-- It is so on a disk that goes on, whose ring keeps F from its beginning on, once that is flushed. -/
theorem ag_flush {x : DS} {S F : List UInt8} (h : Keeps 1 5 6 x S F) (hF : F.length ≤ 640) : Ag x.flush F := by
  obtain ⟨g, _, hr⟩ := h.good.flush
  have hS : ∀ i, x.flush.S i = none := by
    intro i
    have e : x.flush = { x with s := Dk.laid x.s x.S (fun _ => false), S := fun _ => none, fl := wrap64 (x.fl + 1) } := by
      unfold DS.flush
      rw [if_neg (by rw [h.good.up]; decide), if_neg (by rw [h.good.fu]; decide), h.good.spend]
    rw [e]
  refine ⟨g.n, g.len, (fun i l hl => by rw [hS] at hl; cases hl), fun p hp => ?_, (fun i l hl => by rw [hS] at hl; cases hl)⟩
  have h1 := h.bytes p hp (by unfold rup; omega)
  unfold byteAt at h1
  rw [sec5 (by omega), ← hr _ (by omega)] at h1
  rw [← h1]
  congr 1
  unfold DS.read DS.sure
  rw [if_neg (by rw [g.up]; decide), hS]
  simp only [g.has (show 1 + p / 128 < 6 by omega), Int.toNat_natCast, if_neg (show ¬ (true = false) by decide)]
end Go.Proofs.Ytllnaocnojhlkaa.Dk
