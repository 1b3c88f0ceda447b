/- What of a disk's sectors a crash leaves: lists and numbers alone; an operation by value. -/
import Derived.Test.YtllnaocnojhlkaaVa
import Derived.Test.YtllnaocnojhlkaaDj
import Derived.Test.YtllnaocnojhlkaaDu
namespace Go.Proofs.Ytllnaocnojhlkaa.Dk
open Go Go.RowKit Go.ChangeShapes Go.WideShapes Go.ChangeAt Go.Deep
set_option linter.unusedVariables false
set_option linter.unusedSimpArgs false

theorem Good.writeAny {x : DS} {N : Nat} (h : Good x N) (i : Int) {b : List UInt8} (hb : b.length = 128) : Good (x.write i b) N := by
  by_cases hi : 0 ≤ i ∧ i < (N : Int)
  · obtain ⟨k, rfl⟩ : ∃ k : Nat, i = (k : Int) := ⟨i.toNat, by omega⟩
    exact h.write (by omega) hb
  · have : x.has i = false := by simp [DS.has, h.n]; omega
    unfold DS.write
    rw [if_neg (by rw [h.up]; decide), if_pos this]
    exact h
/-- What Write answers on it. -/
theorem Good.wcodeAny {x : DS} {N : Nat} (h : Good x N) (i : Int) : x.wcode i 128 = if 0 ≤ i ∧ i < (N : Int) then 0 else 1 := by
  by_cases hi : 0 ≤ i ∧ i < (N : Int)
  · rw [if_pos hi]
    have : x.has i = true := by simp [DS.has, h.n]; exact hi
    simp [DS.wcode, h.up, this, h.fu]
  · rw [if_neg hi]
    have : x.has i = false := by simp [DS.has, h.n]; omega
    simp [DS.wcode, h.up, this]
theorem Good.inside {x : DS} {N : Nat} (h : Good x N) : ∀ i l, wfi i → x.S i = some l → x.has i = true := by
  intro i l _ hl
  have h1 := h.wl i l hl
  simp [DS.has, h.n]
  exact h1.2
/-- A sector behind a crash, and with the power there again. -/
structure Mid (x y : DS) (N : Nat) : Prop where
  S : y.S = x.S
  n : y.s.length = N
  len : ∀ b ∈ y.s, b.length = 128
  none_ : ∀ i : Nat, i < N → x.S (i : Int) = none → y.s.getD i [] = x.s.getD i []
  some_ : ∀ (i : Nat) (l : List UInt8), i < N → x.S (i : Int) = some l → y.s.getD i [] = x.s.getD i [] ∨ y.s.getD i [] = l
theorem getD_set_self {s : List (List UInt8)} {k : Nat} {v : List UInt8} (h : k < s.length) : (s.set k v).getD k [] = v := by simp [List.getD, h]
theorem getD_set_ne {s : List (List UInt8)} {k i : Nat} {v : List UInt8} (h : k ≠ i) : (s.set k v).getD i [] = s.getD i [] := by
  simp only [List.getD]
  rw [List.getElem?_set_ne h]
theorem Mid.settle128 {x y : DS} {N : Nat} (hx : Good x N) (h : Mid x y N) (i : Int) : Mid x (y.settle i 128) N := by
  unfold DS.settle
  rw [h.S]
  cases hs : x.S i with
  | none => exact h
  | some l =>
    obtain ⟨w1, w2, w3⟩ := hx.wl i l hs
    obtain ⟨k, rfl⟩ : ∃ k : Nat, i = (k : Int) := ⟨i.toNat, by omega⟩
    have hk : k < y.s.length := by rw [h.n]; omega
    have hl : (y.s.getD k []).length = 128 := h.len _ (by simp [List.getD, hk])
    have e : l.take (min (max (128 : Int) 0) 128).toNat ++ (y.s.getD k []).drop (min (max (128 : Int) 0) 128).toNat = l := by
      have e1 : (min (max (128 : Int) 0) 128).toNat = 128 := by decide
      rw [e1, List.take_of_length_le (by omega), List.drop_eq_nil_of_le (by omega), List.append_nil]
    simp only [Int.toNat_natCast, e]
    refine ⟨rfl, by simpa using h.n, fun b hb => ?_, fun j hj hn => ?_, fun j l' hj hn => ?_⟩
    · rcases List.mem_or_eq_of_mem_set hb with hb | rfl
      · exact h.len b hb
      · exact w1
    · have : k ≠ j := fun e => by subst e; rw [hs] at hn; cases hn
      show (y.s.set k l).getD j [] = _
      rw [getD_set_ne this]
      exact h.none_ j hj hn
    · show (y.s.set k l).getD j [] = _ ∨ (y.s.set k l).getD j [] = _
      by_cases e : k = j
      · subst e
        rw [hs] at hn
        cases hn
        right
        exact getD_set_self hk
      · rw [getD_set_ne e]
        exact h.some_ j l' hj hn
theorem Mid.settles {x : DS} {N : Nat} (hx : Good x N) (K : List Int) : ∀ y : DS, Mid x y N → Mid x (K.foldl (fun y i => y.settle i 128) y) N := by
  induction K with
  | nil => exact fun y h => h
  | cons k K ih => exact fun y h => ih _ (h.settle128 hx k)
theorem crash_left {x : DS} {N : Nat} (hx : Good x N) (K : List Int) (tear a : Int) : Good (x.crash K tear a).up N ∧ (∀ i, (x.crash K tear a).up.S i = none) ∧ ∀ n : Nat, n < N →
    ∃ v, (x.crash K tear a).up.read (n : Int) = (v, 0) ∧ (v = x.s.getD n [] ∨ ∃ l, x.S (n : Int) = some l ∧ (v = l ∨ (tear = (n : Int) ∧ v = l.take (min (max a 0) 128).toNat ++ (x.s.getD n []).drop (min (max a 0) 128).toNat))) := by
  have h1 := Mid.settles hx K x ⟨rfl, hx.n, hx.len, fun _ _ _ => rfl, fun _ _ _ _ => .inl rfl⟩
  generalize hy : K.foldl (fun y i => y.settle i 128) x = y at h1
  have e : (x.crash K tear a).up = { y.settle tear a with S := fun _ => none, fuse := -1, down := false } := by
    unfold DS.crash DS.up
    rw [hy]
    simp
  rw [e]
  obtain ⟨q, hq⟩ : ∃ q, q = (min (max a 0) 128).toNat := ⟨_, rfl⟩
  have hq2 : q ≤ 128 := by omega
  rw [← hq]
  have hz : (y.settle tear a).s.length = N ∧ (∀ b ∈ (y.settle tear a).s, b.length = 128) ∧ ∀ n : Nat, n < N → (y.settle tear a).s.getD n [] = y.s.getD n [] ∨ ∃ l, x.S (n : Int) = some l ∧ tear = (n : Int) ∧ (y.settle tear a).s.getD n [] = l.take q ++ (y.s.getD n []).drop q := by
    unfold DS.settle
    rw [h1.S]
    cases hs : x.S tear with
    | none => exact ⟨h1.n, h1.len, fun n _ => .inl rfl⟩
    | some l =>
      obtain ⟨w1, w2, w3⟩ := hx.wl tear l hs
      obtain ⟨k, rfl⟩ : ∃ k : Nat, tear = (k : Int) := ⟨tear.toNat, by omega⟩
      have hk : k < y.s.length := by rw [h1.n]; omega
      have hl : (y.s.getD k []).length = 128 := h1.len _ (by simp [List.getD, hk])
      simp only [Int.toNat_natCast, ← hq]
      refine ⟨by simpa using h1.n, fun b hb => ?_, fun n hn => ?_⟩
      · rcases List.mem_or_eq_of_mem_set hb with hb | rfl
        · exact h1.len b hb
        · rw [List.length_append, List.length_take, List.length_drop, hl, w1]; omega
      · by_cases e : k = n
        · subst e
          right
          exact ⟨l, hs, rfl, getD_set_self hk⟩
        · left
          exact getD_set_ne e
  obtain ⟨z1, z2, z3⟩ := hz
  refine ⟨⟨rfl, rfl, z1, z2, fun i l hl => by simp at hl⟩, fun i => rfl, fun n hn => ⟨(y.settle tear a).s.getD n [], ?_, ?_⟩⟩
  · unfold DS.read DS.sure DS.has
    simp only [z1, Int.toNat_natCast, if_neg (show ¬ (false = true) by decide)]
    rw [if_neg]
    simp
    exact hn
  · cases hs : x.S (n : Int) with
    | none =>
      left
      rcases z3 n hn with h | ⟨l, h, _⟩
      · rw [h]; exact h1.none_ n hn hs
      · rw [hs] at h; cases h
    | some l =>
      have hl128 := (hx.wl _ _ hs).1
      rcases z3 n hn with h | ⟨l', h, ht, h2⟩
      · rw [h]
        rcases h1.some_ n l hn hs with h3 | h3
        · exact .inl h3
        · exact .inr ⟨l, rfl, .inl h3⟩
      · rw [hs] at h
        cases h
        rcases h1.some_ n l hn hs with h3 | h3
        · right
          exact ⟨l, rfl, .inr ⟨ht, by rw [h2, h3]⟩⟩
        · right
          refine ⟨l, rfl, .inl ?_⟩
          rw [h2, h3, List.take_append_drop]
set_option maxRecDepth 100000 in
/-- An operation by value that came in. -/
theorem open_op {H : Type} {enc : TypeId × Value → H} {W : World} {base : Nat} {v : Value} {d : DataW H} {p : List MemPlace} (hv : Value.okWide Try.prog W .any base 59 v) (h : DataW.Trod enc Try.prog W 0 (fun _ => true) true 59 v d p) :
    ∃ q : OpD, v = .agg q.cells.toArray ∧ q.Good W := by
  have hu := Try.underlying59
  simp only [Value.okWide, hu] at hv
  obtain ⟨xs, rfl, hsz⟩ := hv
  obtain ⟨fuel, hf⟩ := h
  obtain ⟨q, hc, hg⟩ := trod_op hf
  refine ⟨q, ?_, hg⟩
  simp only [Value.cells] at hc
  rw [← hc]
theorem one_op {w : World} {p : OpD} (h : p.Good w) : Ops (w.alloc (.cells p.cells.toArray 59 (0, 0))) (.slice (some ⟨w.heap.size, 0, none⟩) 1 1) [p] := by
  refine ⟨_, 1, rfl, (fun e => by cases e), fun a ha j q hj i u hu => ?_, fun q hq => ?_⟩
  · cases ha
    obtain ⟨rfl, rfl⟩ : j = 0 ∧ q = p := by
      cases j with
      | zero => simp at hj; exact ⟨rfl, hj.symm⟩
      | succ j => simp at hj
    rw [Addr.add_mid, cell_of_row _ w.heap.size _ _ _ _ (heap_alloc_new w _)]
    simpa using hu
  · simp at hq
    subst hq
    exact h.below ((Below.refl _ w).alloc (Nat.le_refl _) _) (Nat.le_refl _)
end Go.Proofs.Ytllnaocnojhlkaa.Dk
