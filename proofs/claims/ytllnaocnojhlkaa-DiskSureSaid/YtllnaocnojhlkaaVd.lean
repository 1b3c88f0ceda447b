/- A ring that keeps a text: what Open, Append and Read leave, told over the text of all bytes that ever were. -/
import Derived.Test.YtllnaocnojhlkaaVa
import Derived.Test.YtllnaocnojhlkaaUf
import Derived.Test.YtllnaocnojhlkaaUd
namespace Go.Proofs.Ytllnaocnojhlkaa.Dk
open Go Go.RowKit
set_option linter.unusedVariables false
set_option linter.unusedSimpArgs false

/-- What a ring over a disk that goes on has of the text of all bytes that ever were. -/
structure Keeps (first count N : Nat) (x : DS) (S text : List UInt8) : Prop where
  good : Good x N
  bytes : ∀ i, i < text.length → rup text.length ≤ i / 128 * 128 + count * 128 → byteAt first count x i = text.getD i 0
  last : S.take (text.length % 128) = text.drop (text.length - text.length % 128)
theorem keeps_nil {first count N : Nat} {x : DS} {S : List UInt8} (h : Good x N) : Keeps first count N x S [] := ⟨h, fun i hi => by simp at hi, by simp⟩
theorem keeps_split {S text F : List UInt8} (hS : S.length = 128) (h : S.take (text.length % 128) = text.drop (text.length - text.length % 128)) :
    text ++ F = text.take (text.length - text.length % 128) ++ (S.take (text.length % 128) ++ F) := by
  rw [h, ← List.append_assoc, List.take_append_drop]
theorem getD_append_r {a b : List UInt8} {i : Nat} (h : a.length ≤ i) : (a ++ b).getD i 0 = b.getD (i - a.length) 0 := by
  simp only [List.getD]
  rw [List.getElem?_append_right h]
theorem getD_append_l {a b : List UInt8} {i : Nat} (h : i < a.length) : (a ++ b).getD i 0 = a.getD i 0 := by
  simp only [List.getD]
  rw [List.getElem?_append_left h]
theorem pad_take {b : List UInt8} {q : Nat} (h : b.length = q) (hq : q < 128) : (pad b).take q = b := by
  unfold pad
  rw [List.take_append_of_le_length (by rw [List.length_take]; omega), List.take_take]
  exact List.take_of_length_le (by omega)
theorem keeps_lays {first count N : Nat} {x : DS} {S text F : List UInt8} (hK : Keeps first count N x S text) (hS : S.length = 128) (hc : 1 ≤ count) (hN : first + count ≤ N)
    (hl : text.length % 128 + F.length ≤ count * 128) :
    ∀ B, B = S.take (text.length % 128) ++ F → (lays first count B.length x (text.length - text.length % 128) B).2 = 0 ∧
      Keeps first count N (lays first count B.length x (text.length - text.length % 128) B).1 (pad (B.drop ((B.length - 1) / 128 * 128))) (text ++ F) := by
  intro B hB
  have hq := Nat.mod_lt text.length (show 0 < 128 by decide)
  have hql := Nat.mod_le text.length 128
  have hBl : B.length = text.length % 128 + F.length := by rw [hB, List.length_append, List.length_take, hS]; omega
  obtain ⟨l1, l2, l3, l4⟩ := lays_good hc hN B.length x (text.length - text.length % 128) B hK.good (by omega) (by omega) (by omega)
  have hsp := keeps_split (F := F) hS hK.last
  rw [← hB] at hsp
  have htl : (text.take (text.length - text.length % 128)).length = text.length - text.length % 128 := by rw [List.length_take]; omega
  obtain ⟨a, ha⟩ : ∃ a, a = text.length - text.length % 128 := ⟨_, rfl⟩
  rw [← ha] at l1 l2 l3 l4 hsp htl ⊢
  have ha0 : a % 128 = 0 := by omega
  have hlen : (text ++ F).length = a + B.length := by rw [List.length_append, hBl]; omega
  refine ⟨l1, l2, ?_, ?_⟩
  · rw [hlen]
    intro i hi hr
    have hrr : rup (a + B.length) = a + rup B.length := by unfold rup; omega
    by_cases h : a ≤ i
    · have h1 := l3 (i - a) (by omega)
      rw [show a + (i - a) = i by omega] at h1
      rw [h1, hsp, getD_append_r (by rw [htl]; exact h), htl]
    · have h1 := l4 i (by omega) (by omega)
      have h2 := hK.bytes i (by omega) (by
        have : rup text.length ≤ rup (a + B.length) := by unfold rup; rw [hBl]; omega
        omega)
      unfold byteAt at h2 ⊢
      rw [h1, h2, getD_append_l (by omega)]
  · rw [hlen]
    have e1 : (a + B.length) % 128 = B.length % 128 := by omega
    rw [e1, hsp]
    have hb := Nat.mod_lt B.length (show 0 < 128 by decide)
    by_cases h0 : B.length % 128 = 0
    · rw [h0, List.take_zero, Nat.sub_zero]
      symm
      apply List.drop_eq_nil_of_le
      rw [List.length_append, htl]
      exact Nat.le_refl _
    · have e2 : (B.length - 1) / 128 * 128 = B.length - B.length % 128 := by omega
      rw [e2, pad_take (by rw [List.length_drop]; omega) hb]
      rw [List.drop_append, htl, show (text.take a).drop (a + B.length - B.length % 128) = [] from List.drop_eq_nil_of_le (by rw [htl]; omega), List.nil_append]
      congr 1
      omega
theorem keeps_read {first count N : Nat} {x : DS} {S text : List UInt8} (hK : Keeps first count N x S text) (hc : 1 ≤ count) {at_ n : Nat} (h1 : at_ + n ≤ text.length) (h2 : text.length - at_ ≤ thereN text.length count) :
    bytesAt first count x at_ n = (text.drop at_).take n := by
  have hl : ((text.drop at_).take n).length = n := by rw [List.length_take, List.length_drop]; omega
  have := bytesAt_eq (first := first) (count := count) (x := x) (at_ := at_) (b := (text.drop at_).take n) (fun j hj => by
    rw [hl] at hj
    rw [hK.bytes (at_ + j) (by omega) (by
      unfold thereN at h2
      unfold rup
      split at h2 <;> omega)]
    simp only [List.getD, List.getElem?_take, List.getElem?_drop, if_pos hj])
  rw [hl] at this
  exact this
theorem keeps_open0 {first count N : Nat} {x : DS} {text : List UInt8} (hg : Good x N) (hby : ∀ i, i < text.length → rup text.length ≤ i / 128 * 128 + count * 128 → byteAt first count x i = text.getD i 0) (hc : 1 ≤ count) (hN : first + count ≤ N) :
    Keeps first count N x (x.read (sec first count text.length : Nat)).1 text := by
  refine ⟨hg, hby, ?_⟩
  have hs := sec_lt hc hN text.length
  have hr := (hg.read hs).2
  have hq := Nat.mod_lt text.length (show 0 < 128 by decide)
  have hql := Nat.mod_le text.length 128
  apply List.ext_getElem?
  intro i
  rw [List.getElem?_take, List.getElem?_drop]
  by_cases hi : i < text.length % 128
  · rw [if_pos hi]
    have h1 := hby (text.length - text.length % 128 + i) (by omega) (by unfold rup; omega)
    unfold byteAt at h1
    have e1 : sec first count (text.length - text.length % 128 + i) = sec first count text.length := by
      unfold sec
      have : (text.length - text.length % 128 + i) / 128 = text.length / 128 := by omega
      rw [this]
    rw [e1, show (text.length - text.length % 128 + i) % 128 = i by omega] at h1
    have h2 : i < (x.read (sec first count text.length : Nat)).1.length := by rw [hr]; omega
    have h3 : text.length - text.length % 128 + i < text.length := by omega
    simp only [List.getD, List.getElem?_eq_getElem h2, List.getElem?_eq_getElem h3, Option.getD_some] at h1
    rw [List.getElem?_eq_getElem h2, List.getElem?_eq_getElem h3, h1]
  · rw [if_neg hi, List.getElem?_eq_none (by omega)]
theorem keeps_open {first count N : Nat} {x : DS} {S text : List UInt8} (hK : Keeps first count N x S text) (hc : 1 ≤ count) (hN : first + count ≤ N) :
    Keeps first count N x (x.read (sec first count text.length : Nat)).1 text := keeps_open0 hK.good hK.bytes hc hN
/-- An append that there is room for. -/
theorem append_keeps {w : World} {r d k first count N : Nat} {S text : List UInt8} {t : TypeId} (h : RingAt w r d k first count text.length S t) (ht : text.length ≤ 4000000000)
    {g m n : Nat} {x : DS} (hD : DiskAt Try.prog w d g m n x) (hK : Keeps first count N x S text) (hN : first + count ≤ N) (hr : ¬ own3 d g m r) (hk : ¬ own3 d g m k) (hnn : n ≤ 1000000000)
    (head : Nat) (hh : head < 18446744073709551616) (ao : Option Addr) (c : Nat) (L : List (List UInt8)) (hP : Parts w (.slice ao L.length c) L) (hl : L.length ≤ 1000000) (hsum : sumLen L ≤ 900000) (hroom : sumLen L ≤ leftN head text.length count) :
    Calls Try.prog 19 #[.pointer (some ⟨r, 0, none⟩), .int .u64 (head : Int), .slice ao L.length c] w fun e w' => e = .returned (.int .i64 0) ∧
      ∃ k' S' t' x' n', RingAt w' r d k' first count (text ++ L.flatten).length S' t' ∧ ¬ own3 d g m k' ∧ k' ≠ r ∧ (k' = k ∨ w.heap.size ≤ k') ∧ DiskAt Try.prog w' d g m n' x' ∧ n' ≤ n + sumLen L + 128 ∧ Keeps first count N x' S' (text ++ L.flatten) ∧ Frm (fun i => i = r ∨ own3 d g m i) w w' := by
  have hlf : L.flatten.length = sumLen L := rfl
  have hq := Nat.mod_lt text.length (show 0 < 128 by decide)
  have hql := Nat.mod_le text.length 128
  refine (append_any h (by omega) hD hr hk hnn head hh ao c L hP hl hsum).mono ?_
  rintro e w' (⟨h1, _⟩ | ⟨h0, rfl, q, rfl⟩ | ⟨h1, h2, X, hX, rfl, hD', hF, hok, hbad⟩)
  · omega
  · have e0 : L.flatten = [] := List.length_eq_zero_iff.1 (by rw [hlf]; exact h0)
    rw [e0, List.append_nil]
    exact ⟨rfl, k, S, t, x, n, h.keep rfl rfl, hk, fun e => h.ne e.symm, .inl rfl, hD.drewN q, by omega, hK, (Frm.refl _ w).drewN q⟩
  · have hle : text.length % 128 + L.flatten.length ≤ count * 128 := by
      rw [hlf]
      unfold leftN at h2
      have hmm : min head text.length ≤ text.length := Nat.min_le_right _ _
      generalize min head text.length = mm at *
      clear hok hbad hF hD' hX
      omega
    obtain ⟨k1, k2⟩ := keeps_lays hK h.len h.cnt hN hle _ rfl
    have hb : (S.take (text.length % 128) ++ L.flatten).length ≤ sumLen L + 128 := by
      rw [List.length_append, List.length_take, hlf]
      omega
    rw [← hX] at k1 k2
    obtain ⟨ks, hks, hR⟩ := hok k1
    have hks3 : ¬ own3 d g m ks := fun h => by
      have := hD.dlt; have := hD.glt; have := hD.mlt
      rcases h with h | h | h <;> omega
    refine ⟨by rw [k1], ks, _, 5, X.1, _, ?_, hks3, fun e => by have := h.rlt; omega, .inr hks, hD', by omega, k2, hF⟩
    rw [List.length_append, hlf]
    exact hR
/-- A read of what is there. -/
theorem read_keeps {w : World} {r d k first count N : Nat} {S text : List UInt8} {t : TypeId} (h : RingAt w r d k first count text.length S t) (ht : text.length ≤ 4000000000)
    {g m n0 : Nat} {x : DS} (hD : DiskAt Try.prog w d g m n0 x) (hK : Keeps first count N x S text) (hN : first + count ≤ N) (at_ n : Nat) (h1 : at_ + n ≤ text.length) (h2 : text.length - at_ ≤ thereN text.length count) :
    Calls Try.prog 20 #[.pointer (some ⟨r, 0, none⟩), .int .u64 (at_ : Int), .int .i64 (n : Int)] w fun e w' => ∃ ko c, e = .returned (.tuple #[.slice (some ⟨ko, 0, none⟩) n c, .int .i64 0]) ∧ w'.heap[ko]? = some (.cells (bvs ((text.drop at_).take n)).toArray 5 (0, 0)) ∧ w.heap.size ≤ ko ∧ Below w.heap.size w w' := by
  have := rread_row h (by omega) hD at_ n h1 h2 (fun i _ => (hK.good.read (sec_lt h.cnt hN _)).1) (fun i _ => (hK.good.read (sec_lt h.cnt hN _)).2)
  rw [keeps_read hK h.cnt h1 h2] at this
  exact this
/-- A ring that is opened where the text ends. -/
theorem open_keeps {w : World} {d g m n first count N : Nat} {x : DS} {S text : List UInt8} (hD : DiskAt Try.prog w d g m n x) (hK : Keeps first count N x S text) (hc : 1 ≤ count) (hN : first + count ≤ N) (ht : text.length ≤ 4000000000) :
    Calls Try.prog 17 #[.pointer (some ⟨d, 0, none⟩), .int .i64 (first : Int), .int .i64 (count : Int), .int .u64 (text.length : Int)] w fun e w' => ∃ r k S', e = .returned (.tuple #[.pointer (some ⟨r, 0, none⟩), .int .i64 0]) ∧ RingAt w' r d k first count text.length S' 121 ∧ Keeps first count N x S' text ∧ Below w.heap.size w w' ∧ w.heap.size ≤ r ∧ w.heap.size ≤ k := by
  refine (open_good hD first count text.length hc (by rw [hK.good.n]; exact hN) (by omega) (hK.good.read (sec_lt hc hN _)).1).mono ?_
  rintro e w' ⟨r, k, rfl, hR, hB, hr, hk⟩
  exact ⟨r, k, _, rfl, hR, keeps_open hK hc hN, hB, hr, hk⟩
end Go.Proofs.Ytllnaocnojhlkaa.Dk
