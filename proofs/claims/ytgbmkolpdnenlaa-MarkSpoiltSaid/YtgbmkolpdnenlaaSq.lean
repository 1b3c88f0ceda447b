/- What a mark is worth of which a byte was turned. -/
import Derived.Test.YtgbmkolpdnenlaaSp
import Derived.Test.YtgbmkolpdnenlaaMp
import Derived.Test.YtgbmkolpdnenlaaCl2
namespace Go.Proofs.Ytgbmkolpdnenlaa.Dk
open Go Go.RowKit
set_option linter.unusedVariables false
set_option linter.unusedSimpArgs false
/-- The two copies of a mark agree. -/
theorem layM_half {m : MkD} (h : m.W.length = 6) {j : Nat} (hj : j < 56) : (layM m)[j]? = (layM m)[j + 56]? := by
  have hb : (bodyM m 6).length = 56 := by rw [bodyM_length h (Nat.le_refl _)]
  unfold layM
  rw [List.append_assoc, List.getElem?_append_left (by omega), List.getElem?_append_right (by omega), hb, List.getElem?_append_left (by omega)]
  congr 1
theorem xor_zero {b v : UInt8} (h : b ^^^ v = b) : v = 0 := by
  have h2 : b ^^^ (b ^^^ v) = b ^^^ b := by rw [h]
  rw [← UInt8.xor_assoc, UInt8.xor_self, UInt8.zero_xor] at h2
  exact h2
/-- A mark of which a byte was turned is none. -/
theorem spoilt_noM {mk : MkD} (h : mk.Ok) {q : Nat} (hq : q < 112) {v : UInt8} (hv : v ≠ 0) (i : Nat) : ¬ isM ((layM mk).set q ((layM mk).getD q 0 ^^^ v)) i := by
  rintro ⟨_, e⟩
  have hl := layM_length h.len
  have hlq : q < (layM mk).length := by omega
  obtain ⟨b, hb⟩ : ∃ b, (layM mk)[q]? = some b := ⟨_, List.getElem?_eq_getElem hlq⟩
  have hbd : (layM mk).getD q 0 = b := by rw [List.getD_eq_getElem?_getD, hb]; rfl
  rw [hbd] at e
  have hs : ((layM mk).set q (b ^^^ v))[q]? = some (b ^^^ v) := by rw [List.getElem?_set, if_pos rfl, if_pos hlq]
  have hr := (readM_ok ((layM mk).set q (b ^^^ v))).len
  by_cases h56 : q < 56
  · have h1 := layM_half hr h56
    rw [e, hs, List.getElem?_set, if_neg (by omega), ← layM_half h.len h56, hb] at h1
    exact hv (xor_zero (Option.some.inj h1))
  · have h1 := layM_half hr (show q - 56 < 56 by omega)
    have h2 := layM_half h.len (show q - 56 < 56 by omega)
    rw [show q - 56 + 56 = q by omega] at h1 h2
    rw [e, hs, List.getElem?_set, if_neg (by omega), h2, hb] at h1
    exact hv (xor_zero (Option.some.inj h1).symm)
theorem spoilt_seqAt {mk : MkD} (h : mk.Ok) {q : Nat} (hq : q < 112) {v : UInt8} (hv : v ≠ 0) (i : Nat) : seqAt ((layM mk).set q ((layM mk).getD q 0 ^^^ v)) i = 0 := by
  unfold seqAt
  rw [if_neg (spoilt_noM h hq hv i)]
theorem Calm.spoil {x : DS} (h : Calm x) (k q : Nat) (v : UInt8) : Calm (x.spoil k q v) := ⟨h.up, h.S⟩
theorem Calm.copied {x : DS} (h : Calm x) (c : Nat) (T : List Value) : Calm (x.copied c T) := ⟨h.up, h.S⟩
/-- Of two marks the one that was spared is the last. -/
theorem spared_last {x : DS} (hc : Calm x) (hn : x.s.length = 2) {m1 m2 : MkD} (h1 : m1.Ok) (h2 : m2.Ok) (hp : 0 < m1.seq) (hne : m1.seq % 2 ≠ m2.seq % 2) (hs1 : x.s.getD (m1.seq % 2) [] = layM m1) (hs2 : x.s.getD (m2.seq % 2) [] = layM m2) {q : Nat} (hq : q < 112) {v : UInt8} (hv : v ≠ 0) :
    (x.spoil (m2.seq % 2) q v).lastMark 0 = m1 := by
  have hl : (x.spoil (m2.seq % 2) q v).s.length = 2 := by unfold DS.spoil; simp [hn]
  have H := (hc.spoil (m2.seq % 2) q v).last (first := 0) (by rw [hl]; exact Nat.le_refl 2)
  rw [H]
  have e2 : (x.spoil (m2.seq % 2) q v).s.getD (m2.seq % 2) [] = (layM m2).set q ((layM m2).getD q 0 ^^^ v) := by
    unfold DS.spoil
    show (x.s.set (m2.seq % 2) _).getD (m2.seq % 2) [] = _
    rw [getD_set_self (by rw [hn]; omega), hs2]
  have e1 : (x.spoil (m2.seq % 2) q v).s.getD (m1.seq % 2) [] = layM m1 := by
    unfold DS.spoil
    show (x.s.set (m2.seq % 2) _).getD (m1.seq % 2) [] = _
    rw [getD_set_ne' (Ne.symm hne), hs1]
  rcases (show m1.seq % 2 = 0 ∨ m1.seq % 2 = 1 by omega) with h0 | h0
  · have h20 : m2.seq % 2 = 1 := by omega
    rw [h0] at e1
    rw [h20] at e2
    rw [h20] at e1 ⊢
    rw [e1, show (0 + 1 : Nat) = 1 from rfl, e2]
    exact last_fst h1 h0 hp (by rw [spoilt_seqAt h2 hq hv]; omega)
  · have h20 : m2.seq % 2 = 0 := by omega
    rw [h0] at e1
    rw [h20] at e2
    rw [h20] at e1 ⊢
    rw [e2, show (0 + 1 : Nat) = 1 from rfl, e1]
    exact last_snd h1 h0 (by rw [spoilt_seqAt h2 hq hv]; exact hp)
end Go.Proofs.Ytgbmkolpdnenlaa.Dk
