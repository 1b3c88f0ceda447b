/- A mark by whose writing the power goes, and what a crash leaves of it: the one before or the one behind. -/
import Derived.Test.YtgbmkolpdnenlaaMq
import Derived.Test.YtgbmkolpdnenlaaPn
namespace Go.Proofs.Ytgbmkolpdnenlaa.Dk
open Go Go.RowKit
set_option linter.unusedVariables false
set_option linter.unusedSimpArgs false
/-- A word that is small is its first byte. -/
theorem word_low {l : List UInt8} {p : Nat} : ∀ k, wordN l p k < 256 → ∀ j, 1 ≤ j → j < k → (l.getD (p + j) 0).toNat = 0
  | 0, _, j, _, hj => absurd hj (by omega)
  | k + 1, h, j, h1, hj => by
    have hw : wordN l p (k + 1) = wordN l p k + (l.getD (p + k) 0).toNat * 256 ^ k := rfl
    by_cases e : j < k
    · exact word_low k (by omega) j h1 e
    · obtain rfl : j = k := by omega
      have h2 : (256 : Nat) ^ 1 ≤ 256 ^ j := Nat.pow_le_pow_right (by decide) h1
      cases hb : (l.getD (p + j) 0).toNat with
      | zero => rfl
      | succ b =>
        rw [hb] at hw
        have h3 : 1 * 256 ^ j ≤ (b + 1) * 256 ^ j := Nat.mul_le_mul_right _ (by omega)
        omega
theorem word_first {l : List UInt8} {p : Nat} : ∀ k, 0 < k → (∀ j, 1 ≤ j → j < k → (l.getD (p + j) 0).toNat = 0) → wordN l p k = (l.getD p 0).toNat
  | 0, h, _ => absurd h (by omega)
  | 1, _, _ => by simp [wordN]
  | k + 2, _, h => by
    have hw : wordN l p (k + 2) = wordN l p (k + 1) + (l.getD (p + (k + 1)) 0).toNat * 256 ^ (k + 1) := rfl
    rw [hw, word_first (k + 1) (by omega) (fun j h1 h2 => h j h1 (by omega)), h (k + 1) (by omega) (by omega)]
    omega
theorem word_cong {a b : List UInt8} {p : Nat} : ∀ k, (∀ j, j < k → a.getD (p + j) 0 = b.getD (p + j) 0) → wordN a p k = wordN b p k
  | 0, _ => rfl
  | k + 1, h => by
    unfold wordN
    rw [word_cong k (fun j hj => h j (by omega)), h k (by omega)]
/-- The first q bytes of one and the others of another. -/
def tornS (q : Nat) (l s : List UInt8) : List UInt8 := l.take q ++ s.drop q
theorem torn_get {l s : List UInt8} {q : Nat} (hl : q ≤ l.length) (j : Nat) : (tornS q l s).getD j 0 = if j < q then l.getD j 0 else s.getD j 0 := by
  unfold tornS
  have e : (l.take q).length = q := by rw [List.length_take]; omega
  split
  · rename_i h
    rw [List.getD_eq_getElem?_getD, List.getElem?_append_left (by omega), List.getElem?_take, if_pos h, ← List.getD_eq_getElem?_getD]
  · rename_i h
    rw [List.getD_eq_getElem?_getD, List.getElem?_append_right (by omega), e, List.getElem?_drop, ← List.getD_eq_getElem?_getD]
    congr 1
    omega
theorem torn_length {l s : List UInt8} {q : Nat} (hq : q ≤ 128) (hl : l.length = 128) (hs : s.length = 128) : (tornS q l s).length = 128 := by
  unfold tornS
  rw [List.length_append, List.length_take, List.length_drop]
  omega
theorem torn_word {l s : List UInt8} {q p : Nat} (hl : q ≤ l.length) (h1 : wordN l p 8 < 256) (h2 : wordN s p 8 < 256) : wordN (tornS q l s) p 8 = if p < q then wordN l p 8 else wordN s p 8 := by
  have a1 := word_low 8 h1
  have a2 := word_low 8 h2
  rw [word_first 8 (by decide) (fun j hj1 hj2 => by rw [torn_get hl]; split; exact a1 j hj1 hj2; exact a2 j hj1 hj2), torn_get hl, word_first 8 (by decide) a1, word_first 8 (by decide) a2]
  split <;> rfl
theorem readM_cong {a b : List UInt8} (h : ∀ j, j < 56 → a.getD j 0 = b.getD j 0) : readM a = readM b := by
  unfold readM
  rw [word_cong 8 (fun j hj => h (0 + j) (by omega))]
  congr 1
  apply List.map_congr_left
  intro i hi
  have := List.mem_range.1 hi
  exact word_cong 8 (fun j hj => h _ (by omega))
/-- What is torn is the one before, the one behind, or none. -/
theorem torn_mark {mk : MkD} (h : mk.Ok) (h8 : mk.seq < 256) {s : List UInt8} {q k : Nat} (hq : q ≤ 128) (hs : s.length = 128) (ht : topAt s < mk.seq) :
    tornS q (layM mk) s = s ∨ tornS q (layM mk) s = layM mk ∨ ¬ isM (tornS q (layM mk) s) k := by
  have hl := layM_length h.len
  have w0 := layM_word h (i := 0) (by decide)
  rw [Nat.mul_zero, List.getD_cons_zero] at w0
  have s0 : wordN s 0 8 < mk.seq := by unfold topAt at ht; omega
  have s5 : wordN s 56 8 < mk.seq := by unfold topAt at ht; omega
  by_cases q0 : q = 0
  · left
    subst q0
    simp [tornS]
  · by_cases qm : isM (tornS q (layM mk) s) k
    · right; left
      have hr := qm.2
      by_cases q5 : q ≤ 56
      · exfalso
        have h1 := torn_word (l := layM mk) (s := s) (q := q) (p := 0) (by omega) (by omega) (by omega)
        rw [if_pos (by omega), w0] at h1
        have h2 := torn_word (l := layM mk) (s := s) (q := q) (p := 56) (by omega) (by rw [layM_second h]; omega) (by omega)
        rw [if_neg (by omega)] at h2
        have h3 := layM_second (readM_ok (tornS q (layM mk) s))
        rw [hr, h2] at h3
        have h4 : (readM (tornS q (layM mk) s)).seq = wordN (tornS q (layM mk) s) 0 8 := rfl
        omega
      · rw [← hr, readM_cong (b := layM mk) (fun j hj => by rw [torn_get (by omega), if_pos (by omega)]), readM_layM h]
    · exact .inr (.inr qm)
theorem torn_top {mk : MkD} (h : mk.Ok) (h8 : mk.seq < 256) {s : List UInt8} {q : Nat} (hq : q ≤ 128) (ht : topAt s < mk.seq) : topAt (tornS q (layM mk) s) ≤ mk.seq := by
  have hl := layM_length h.len
  have w0 := layM_word h (i := 0) (by decide)
  rw [Nat.mul_zero, List.getD_cons_zero] at w0
  have w5 := layM_second h
  unfold topAt at ht ⊢
  rw [torn_word (by omega) (by omega) (by omega), torn_word (by omega) (by omega) (by omega), w0, w5]
  split <;> split <;> omega
/-- The last one of two, where one of them has no mark and the last one stood on the other. -/
theorem lastM_zero {a b : List UInt8} (h : (lastM a b 2).seq = 0) : lastM a b 2 = noM := by
  unfold lastM at h ⊢
  split
  · rename_i hc
    rw [if_pos hc] at h
    have := hc.2
    omega
  · rename_i hc
    rw [if_neg hc] at h
    unfold lastM at h ⊢
    split
    · rename_i hd
      rw [if_pos hd] at h
      have := hd.2
      omega
    · rfl
theorem last_other0 {a T b : List UInt8} (hT : ¬ isM T 0) (hp : 0 < (lastM a b 2).seq → (lastM a b 2).seq % 2 = 1) : lastM T b 2 = lastM a b 2 := by
  have hT1 : lastM T b 1 = noM := by
    unfold lastM
    exact if_neg (fun hc => hT hc.1)
  by_cases hz : (lastM a b 2).seq = 0
  · have e0 := lastM_zero hz
    rw [e0]
    unfold lastM
    rw [hT1]
    refine if_neg (fun hc => ?_)
    have hb : isM b 1 := hc.1
    have h1 : seqAt b 1 = (readM b).seq := by unfold seqAt; rw [if_pos hb]
    have hpos : noM.seq < (readM b).seq := hc.2
    have h2 : lastM a b 2 = if isM b 1 ∧ (lastM a b 1).seq < (readM b).seq then readM b else lastM a b 1 := rfl
    rw [h2] at hz
    split at hz
    · rename_i h3
      have := h3.2
      omega
    · rename_i h3
      have : ¬ (lastM a b 1).seq < (readM b).seq := fun h4 => h3 ⟨hb, h4⟩
      omega
  · have hp1 := hp (by omega)
    have h2 : lastM a b 2 = if isM b 1 ∧ (lastM a b 1).seq < (readM b).seq then readM b else lastM a b 1 := rfl
    have h3 : isM b 1 ∧ (lastM a b 1).seq < (readM b).seq := by
      refine Classical.byContradiction fun hc => ?_
      rw [if_neg hc] at h2
      rw [h2] at hp1 hz
      have h4 : lastM a b 1 = if isM a 0 ∧ noM.seq < (readM a).seq then readM a else noM := rfl
      rw [h4] at hp1 hz
      split at hp1
      · rename_i h5
        have := h5.1.1
        omega
      · cases hp1
    rw [h2, if_pos h3]
    unfold lastM
    rw [hT1]
    refine if_pos ⟨h3.1, ?_⟩
    show 0 < (readM b).seq
    have := h3.2
    omega
theorem last_other1 {a T b : List UInt8} (hT : ¬ isM T 1) (hp : 0 < (lastM a b 2).seq → (lastM a b 2).seq % 2 = 0) : lastM a T 2 = lastM a b 2 := by
  have h1 : lastM a T 2 = lastM a T 1 := by
    have : lastM a T 2 = if isM T 1 ∧ (lastM a T 1).seq < (readM T).seq then readM T else lastM a T 1 := rfl
    rw [this, if_neg (fun hc => hT hc.1)]
  have h2 : lastM a T 1 = lastM a b 1 := rfl
  have h3 : lastM a b 2 = if isM b 1 ∧ (lastM a b 1).seq < (readM b).seq then readM b else lastM a b 1 := rfl
  rw [h1, h2, h3]
  split
  · rename_i hc
    exfalso
    rw [h3, if_pos hc] at hp
    have h4 := hc.1.1
    have h5 := hc.2
    have := hp (by omega)
    omega
  · rfl
/-- Two sectors between two marks. -/
structure Rest (x : DS) : Prop where
  calm : Calm x
  n : x.s.length = 2
  len : ∀ b ∈ x.s, b.length = 128
theorem two_of {x : DS} (h : Rest x) : ∃ a b, x.s = [a, b] ∧ a.length = 128 ∧ b.length = 128 := by
  have hn := h.n
  have hl := h.len
  match hs : x.s, hn with
  | [a, b], _ => exact ⟨a, b, rfl, hl a (by rw [hs]; simp), hl b (by rw [hs]; simp)⟩
theorem next_parity {x : DS} {ws : List Nat} : 0 < (x.lastMark 0).seq → (x.lastMark 0).seq % 2 ≠ (x.next 0 ws).seq % 2 := by
  intro h
  show (x.lastMark 0).seq % 2 ≠ x.nextSeq 0 % 2
  unfold DS.nextSeq
  split <;> omega
theorem torn_last {x z : DS} (h : Rest x) (hz : Calm z) {mk : MkD} (hm : mk.Ok) (h8 : mk.seq < 256) (hg : x.great 0 < mk.seq) (hp : 0 < (x.lastMark 0).seq → (x.lastMark 0).seq % 2 ≠ mk.seq % 2) {q : Nat} (hq : q ≤ 128)
    (hs : z.s = x.s.set (mk.seq % 2) (tornS q (layM mk) (x.s.getD (mk.seq % 2) []))) :
    Rest z ∧ z.great 0 ≤ mk.seq ∧ (z.lastMark 0 = mk ∨ z.lastMark 0 = x.lastMark 0) := by
  obtain ⟨a, b, hab, la, lb⟩ := two_of h
  have hzl : z.s.length = 2 := by rw [hs, List.length_set, h.n]
  have hxg := h.calm.great (first := 0) (by rw [h.n]; decide)
  have hxl := h.calm.last (first := 0) (by rw [h.n]; decide)
  have hzg := hz.great (first := 0) (by omega)
  have hzm := hz.last (first := 0) (by omega)
  have hl := layM_length hm.len
  have e0 : x.s.getD 0 [] = a := by rw [hab]; rfl
  have e1 : x.s.getD (0 + 1) [] = b := by rw [hab]; rfl
  rw [e0, e1] at hxg hxl
  rw [hxg] at hg
  have h2 : mk.seq % 2 = 0 ∨ mk.seq % 2 = 1 := by omega
  rcases h2 with h2 | h2
  · rw [h2, e0, hab] at hs
    have f0 : z.s.getD 0 [] = tornS q (layM mk) a := by rw [hs]; rfl
    have f1 : z.s.getD (0 + 1) [] = b := by rw [hs]; rfl
    rw [f0, f1] at hzg hzm
    have ht := torn_top hm h8 hq (show topAt a < mk.seq by omega)
    refine ⟨⟨hz, hzl, ?_⟩, by rw [hzg]; omega, ?_⟩
    · intro c hc
      rw [hs] at hc
      simp only [List.set_cons_zero, List.mem_cons, List.not_mem_nil, or_false] at hc
      rcases hc with rfl | rfl
      · exact torn_length hq hl la
      · exact lb
    · rw [hzm, hxl]
      rcases torn_mark hm h8 (k := 0) hq la (show topAt a < mk.seq by omega) with e | e | e
      · right; rw [e]
      · left
        rw [e]
        have := seqAt_top b 1
        exact last_fst hm h2 (by omega) (by omega)
      · right
        refine last_other0 e (fun hp0 => ?_)
        rw [← hxl] at hp0 ⊢
        have := hp hp0
        omega
  · rw [h2, show x.s.getD 1 [] = b from e1, hab] at hs
    have f0 : z.s.getD 0 [] = a := by rw [hs]; rfl
    have f1 : z.s.getD (0 + 1) [] = tornS q (layM mk) b := by rw [hs]; rfl
    rw [f0, f1] at hzg hzm
    have ht := torn_top hm h8 hq (show topAt b < mk.seq by omega)
    refine ⟨⟨hz, hzl, ?_⟩, by rw [hzg]; omega, ?_⟩
    · intro c hc
      rw [hs] at hc
      simp only [List.set_cons_zero, List.set_cons_succ, List.mem_cons, List.not_mem_nil, or_false] at hc
      rcases hc with rfl | rfl
      · exact la
      · exact torn_length hq hl lb
    · rw [hzm, hxl]
      rcases torn_mark hm h8 (k := 1) hq lb (show topAt b < mk.seq by omega) with e | e | e
      · right; rw [e]
      · left
        rw [e]
        have := seqAt_top a 0
        exact last_snd hm h2 (by omega)
      · right
        refine last_other1 e (fun hp0 => ?_)
        rw [← hxl] at hp0 ⊢
        have := hp hp0
        omega
/-- Which sector the test tears: the first of those that were pending, or none. -/
def tearOf (ss : List Int) : Int := ss.headD (-1)
def keepOf (k : Bool) (ss : List Int) : List Int := if k = true then ss else []
theorem pend_one {S : Int → Option (List UInt8)} {ss : List Int} {i : Int} (h : PendS S ss) (hS : ∀ j l, S j = some l → j = i) : ss = [] ∨ ss = [i] := by
  have hm : ∀ j ∈ ss, j = i := fun j hj => by
    obtain ⟨_, h2⟩ := (h.2 j).1 hj
    obtain ⟨l, hl⟩ := Option.isSome_iff_exists.1 h2
    exact hS j l hl
  match ss, h.1, hm with
  | [], _, _ => exact .inl rfl
  | [a], _, hm => exact .inr (by rw [hm a (by simp)])
  | a :: b :: l, hr, hm =>
    exfalso
    have h1 := (List.pairwise_cons.1 hr).1 b (by simp)
    rw [hm a (by simp), hm b (by simp)] at h1
    omega
theorem pend_nil {S : Int → Option (List UInt8)} {ss : List Int} (h : PendS S ss) (hS : ∀ j, S j = none) : ss = [] := by
  rcases pend_one (i := 0) h (fun j l hl => by rw [hS] at hl; cases hl) with e | e
  · exact e
  · exfalso
    have := ((h.2 0).1 (by rw [e]; simp)).2
    rw [hS] at this
    cases this
/-- A mark that is put with a fuse, a crash of which what was pending is kept or torn, and the power back. -/
theorem torn_step {x : DS} (h : Rest x) {ws : List Nat} (h6 : ws.length ≤ 6) (hws : ∀ u ∈ ws, u < 18446744073709551616) (hg : x.great 0 ≤ 253)
    {mk : MkD} (hmk : mk = x.next 0 ws) {C : Int} {y : DS} (hC : C = (x.mark 0 mk).1) (hy : y = (x.mark 0 mk).2) :
    mk.Ok ∧ x.great 0 < mk.seq ∧ mk.seq ≤ x.great 0 + 2 ∧ (C = 0 ∨ C = 50) ∧ (∀ i l, wfi i → y.S i = some l → y.has i = true) ∧ y.s.length = 2 ∧
    ∀ (ss : List Int), PendS y.S ss → ss.length ≤ 1 ∧ (∀ i ∈ ss, wfi i) ∧ ∀ (k : Bool) (a : Int) (z : DS), z = (y.crash (keepOf k ss) (tearOf ss) a).up →
      Rest z ∧ z.great 0 ≤ mk.seq ∧ (z.lastMark 0 = mk ∨ C = 50 ∧ z.lastMark 0 = x.lastMark 0) := by
  have hk := next_ok (x := x) (first := 0) h6 hws (by omega)
  have hpar := next_parity (x := x) (ws := ws)
  have hle : (x.next 0 ws).seq ≤ x.great 0 + 2 := by
    show x.nextSeq 0 ≤ _
    unfold DS.nextSeq
    split <;> omega
  rw [← hmk] at hk hpar hle
  have h2 : mk.seq % 2 < 2 := Nat.mod_lt _ (by decide)
  refine ⟨hk.1, hk.2, hle, ?_⟩
  by_cases hf : x.fuse < 0 ∨ 2 ≤ x.fuse
  · have hfi := mark_fine h.calm (first := 0) hk.1 (by rw [h.n]; decide) hf
    rw [← hC, ← hy] at hfi
    obtain ⟨e1, e2, e3, _⟩ := hfi
    have hyl : y.s.length = 2 := by rw [e3, List.length_set, h.n]
    refine ⟨.inl e1, fun i l _ hi => (by rw [e2.S] at hi; cases hi), hyl, fun ss hss => ?_⟩
    obtain rfl := pend_nil hss e2.S
    refine ⟨by simp, by simp, fun k a z hz => ?_⟩
    have hcu := crash_up (y := y) (e2.S _) a
    have ek : keepOf k [] = [] := by unfold keepOf; split <;> rfl
    rw [ek, show tearOf [] = -1 from rfl] at hz
    rw [← hz] at hcu
    have hl := layM_length hk.1.len
    have hs : z.s = x.s.set (mk.seq % 2) (tornS 128 (layM mk) (x.s.getD (mk.seq % 2) [])) := by
      rw [hcu.2.1, e3, Nat.zero_add]
      congr 1
      obtain ⟨a', b', hab, la, lb⟩ := two_of h
      have : (x.s.getD (mk.seq % 2) []).length = 128 := by
        rcases (show mk.seq % 2 = 0 ∨ mk.seq % 2 = 1 by omega) with e | e <;> rw [e, hab]
        · exact la
        · exact lb
      unfold tornS
      rw [List.take_of_length_le (by omega), List.drop_eq_nil_of_le (by omega), List.append_nil]
    obtain ⟨r1, r2, _⟩ := torn_last h hcu.1 hk.1 (by omega) hk.2 hpar (Nat.le_refl _) hs
    have hls := last_set h.calm hcu.1 (first := 0) hk.1 (by rw [h.n]; decide) (by rw [hcu.2.1, e3]) hk.2
    exact ⟨r1, r2, .inl hls.1⟩
  · have hcu := mark_cut h.calm (first := 0) hk.1 (by rw [h.n]; decide) (by omega)
    rw [← hC, ← hy] at hcu
    obtain ⟨e1, e2, e3, e4⟩ := hcu
    have eat : mk.at_ 0 = ((mk.seq % 2 : Nat) : Int) := by unfold MkD.at_; rw [Nat.zero_add]
    rw [eat] at e4
    have hyl : y.s.length = 2 := by rw [e3, h.n]
    refine ⟨.inr e1, fun i l _ hi => ?_, hyl, fun ss hss => ?_⟩
    · rw [(e4 _ _ hi).1]
      unfold DS.has
      rw [hyl]
      simp only [Bool.and_eq_true, decide_eq_true_eq]
      omega
    have hone := pend_one hss (fun j l hl => (e4 j l hl).1)
    refine ⟨by rcases hone with e | e <;> rw [e] <;> simp, fun i hi => ((hss.2 i).1 hi).1, fun k a z hz => ?_⟩
    have hl := layM_length hk.1.len
    have hold : (x.s.getD (mk.seq % 2) []).length = 128 := by
      obtain ⟨a', b', hab, la, lb⟩ := two_of h
      rcases (show mk.seq % 2 = 0 ∨ mk.seq % 2 = 1 by omega) with e | e <;> rw [e, hab]
      · exact la
      · exact lb
    have hq : ∃ q, q ≤ 128 ∧ Calm z ∧ z.s = x.s.set (mk.seq % 2) (tornS q (layM mk) (x.s.getD (mk.seq % 2) [])) := by
      rcases hone with e | e
      · have hS : y.S (-1) = none := by
          cases hs : y.S (-1) with
          | none => rfl
          | some l => have := (e4 _ _ hs).1; omega
        have hcu := crash_up hS a
        have ek : keepOf k [] = [] := by unfold keepOf; split <;> rfl
        rw [e, ek, show tearOf [] = -1 from rfl] at hz
        rw [← hz] at hcu
        refine ⟨0, by decide, hcu.1, ?_⟩
        rw [hcu.2.1, e3]
        apply List.ext_getElem? 
        intro i
        rw [List.getElem?_set]
        split
        · rename_i hi
          subst hi
          rw [if_pos (by rw [h.n]; omega)]
          unfold tornS
          rw [List.take_zero, List.drop_zero, List.nil_append]
          rw [List.getD_eq_getElem?_getD, List.getElem?_eq_getElem (by rw [h.n]; omega)]
          rfl
        · rfl
      · have hSm : y.S ((mk.seq % 2 : Nat) : Int) = some (layM mk) := by
          have := ((hss.2 ((mk.seq % 2 : Nat) : Int)).1 (by rw [e]; simp)).2
          obtain ⟨l, hl'⟩ := Option.isSome_iff_exists.1 this
          rw [hl', (e4 _ _ hl').2]
        have key : ∀ (v : DS) (a : Int), v.S = y.S → v.s.length = 2 → ∃ q, q ≤ 128 ∧ (min (max a 0) 128).toNat = q ∧ v.settle ((mk.seq % 2 : Nat) : Int) a = { v with s := v.s.set (mk.seq % 2) (tornS q (layM mk) (v.s.getD (mk.seq % 2) [])) } := by
          intro v a hv hvl
          refine ⟨(min (max a 0) 128).toNat, by omega, rfl, ?_⟩
          unfold DS.settle
          rw [hv, hSm]
          simp only [Int.toNat_natCast]
          rfl
        have ht : tearOf ss = ((mk.seq % 2 : Nat) : Int) := by rw [e]; rfl
        rw [ht] at hz
        have up_eq : ∀ v : DS, ({ v with S := fun _ => none, fuse := -1, down := true } : DS).up = { v with S := fun _ => none, fuse := -1, down := false } := fun v => rfl
        cases k with
        | false =>
          obtain ⟨q, hq1, _, hq2⟩ := key y a rfl hyl
          have e5 : z = { y with s := y.s.set (mk.seq % 2) (tornS q (layM mk) (y.s.getD (mk.seq % 2) [])), S := fun _ => none, fuse := -1, down := false } := by
            rw [hz]
            unfold DS.crash
            rw [show keepOf false ss = [] from rfl, List.foldl_nil, hq2, up_eq]
          refine ⟨q, hq1, by rw [e5]; exact ⟨rfl, fun _ => rfl⟩, by rw [e5]; show y.s.set _ _ = _; rw [e3]⟩
        | true =>
          obtain ⟨q0, hq0, hq0e, hq02⟩ := key y 128 rfl hyl
          obtain rfl : q0 = 128 := by rw [← hq0e]; decide
          have h128 : tornS 128 (layM mk) (y.s.getD (mk.seq % 2) []) = layM mk := by
            unfold tornS
            rw [e3, List.take_of_length_le (by omega), List.drop_eq_nil_of_le (by omega), List.append_nil]
          rw [h128] at hq02
          obtain ⟨q, hq1, _, hq2⟩ := key { y with s := y.s.set (mk.seq % 2) (layM mk) } a rfl (by rw [List.length_set]; exact hyl)
          have hg2 : (y.s.set (mk.seq % 2) (layM mk)).getD (mk.seq % 2) [] = layM mk := getD_set_self (by omega)
          have hself : tornS q (layM mk) (layM mk) = layM mk := List.take_append_drop q _
          have e5 : z = { y with s := y.s.set (mk.seq % 2) (layM mk), S := fun _ => none, fuse := -1, down := false } := by
            rw [hz]
            unfold DS.crash
            rw [show keepOf true ss = ss from rfl, e, List.foldl_cons, List.foldl_nil, hq02, hq2, up_eq]
            simp only [hg2, hself, List.set_set]
          refine ⟨128, Nat.le_refl _, by rw [e5]; exact ⟨rfl, fun _ => rfl⟩, ?_⟩
          rw [e5]
          show y.s.set _ _ = _
          rw [e3] at h128 ⊢
          rw [h128]
    obtain ⟨q, hq1, hq2, hq3⟩ := hq
    obtain ⟨r1, r2, r3⟩ := torn_last h hq2 hk.1 (by omega) hk.2 hpar hq1 hq3
    exact ⟨r1, r2, r3.imp (fun h => h) (fun h => ⟨e1, h⟩)⟩
end Go.Proofs.Ytgbmkolpdnenlaa.Dk
