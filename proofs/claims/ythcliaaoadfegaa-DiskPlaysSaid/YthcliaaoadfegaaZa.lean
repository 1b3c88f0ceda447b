/- The reference's disk (foliotref05), its writes as a list, and how they are tied to a disk. Lists and numbers alone. -/
import Derived.Test.YthcliaaoadfegaaFu
import Derived.Test.YthcliaaoadfegaaSp
namespace Go.Proofs.Ythcliaaoadfegaa.Dk
open Go Go.RowKit
set_option linter.unusedVariables false
set_option linter.unusedSimpArgs false
/-- The last write of a sector. -/
def lastFrom (o : Option (List UInt8)) (W : List (Int × List UInt8)) (n : Int) : Option (List UInt8) := W.foldl (fun o p => if p.1 = n then some p.2 else o) o
def lastW (W : List (Int × List UInt8)) (n : Int) : Option (List UInt8) := lastFrom none W n
theorem lastW_nil (n : Int) : lastW [] n = none := rfl
theorem lastW_snoc (W : List (Int × List UInt8)) (p : Int × List UInt8) (n : Int) : lastW (W ++ [p]) n = if p.1 = n then some p.2 else lastW W n := by simp [lastW, lastFrom, List.foldl_append]
theorem lastW_take {W : List (Int × List UInt8)} {i : Nat} (h : i < W.length) (n : Int) : lastW (W.take (i + 1)) n = if (W.getD i default).1 = n then some (W.getD i default).2 else lastW (W.take i) n := by
  rw [List.take_add_one, List.getElem?_eq_getElem h]
  simp only [Option.toList_some, List.getD_eq_getElem?_getD, List.getElem?_eq_getElem h, Option.getD_some]
  exact lastW_snoc _ _ _
theorem lastFrom_mem : ∀ (W : List (Int × List UInt8)) (o : Option (List UInt8)) (n : Int) (b : List UInt8), lastFrom o W n = some b → o = some b ∨ ∃ p ∈ W, p.1 = n ∧ p.2 = b
  | [], o, n, b, h => .inl h
  | q :: W, o, n, b, h => by
    have h' : lastFrom (if q.1 = n then some q.2 else o) W n = some b := h
    rcases lastFrom_mem W _ n b h' with h1 | ⟨p, hp, h1⟩
    · by_cases hq : q.1 = n
      · rw [if_pos hq] at h1
        exact .inr ⟨q, by simp, hq, Option.some.inj h1⟩
      · rw [if_neg hq] at h1
        exact .inl h1
    · exact .inr ⟨p, by simp [hp], h1⟩
theorem lastW_mem {W : List (Int × List UInt8)} {n : Int} {b : List UInt8} (h : lastW W n = some b) : ∃ p ∈ W, p.1 = n ∧ p.2 = b := by
  rcases lastFrom_mem W none n b h with h | h
  · cases h
  · exact h
theorem lastFrom_some : ∀ (W : List (Int × List UInt8)) (o : Option (List UInt8)) (n : Int), (o.isSome = true ∨ ∃ p ∈ W, p.1 = n) → (lastFrom o W n).isSome = true
  | [], o, n, h => by
    rcases h with h | ⟨p, hp, _⟩
    · exact h
    · cases hp
  | q :: W, o, n, h => by
    show (lastFrom (if q.1 = n then some q.2 else o) W n).isSome = true
    refine lastFrom_some W _ n ?_
    by_cases hq : q.1 = n
    · left; rw [if_pos hq]; rfl
    · rw [if_neg hq]
      rcases h with h | ⟨p, hp, h⟩
      · exact .inl h
      · rcases List.mem_cons.1 hp with rfl | hp
        · exact absurd h hq
        · exact .inr ⟨p, hp, h⟩
theorem lastW_isSome {W : List (Int × List UInt8)} {n : Int} : (lastW W n).isSome = true ↔ ∃ p ∈ W, p.1 = n := by
  constructor
  · intro h
    obtain ⟨b, hb⟩ := Option.isSome_iff_exists.1 h
    obtain ⟨p, hp, h1, _⟩ := lastW_mem hb
    exact ⟨p, hp, h1⟩
  · exact fun h => lastFrom_some W none n (.inr h)
/-- A disk and the writes since they were durable. -/
structure Link (x : DS) (W : List (Int × List UInt8)) : Prop where
  S : ∀ i, x.S i = lastW W i
  inn : ∀ p ∈ W, wfi p.1 ∧ x.has p.1 = true ∧ p.2.length = 128
  len : ∀ b ∈ x.s, b.length = 128
theorem Link.at {x : DS} {W : List (Int × List UInt8)} (h : Link x W) {i : Int} {l : List UInt8} (hi : x.S i = some l) : wfi i ∧ x.has i = true ∧ l.length = 128 := by
  rw [h.S] at hi
  obtain ⟨p, hp, rfl, rfl⟩ := lastW_mem hi
  exact h.inn p hp
theorem Link.inside {x : DS} {W : List (Int × List UInt8)} (h : Link x W) : ∀ i l, wfi i → x.S i = some l → x.has i = true := fun i l _ hi => (h.at hi).2.1
theorem Link.new (n : Nat) : Link (DS.new n) [] := ⟨fun i => rfl, (fun p hp => by cases hp), fun b hb => by simp only [DS.new] at hb; rw [List.eq_of_mem_replicate hb]; rfl⟩
def putW (x : DS) (i : Int) (b : List UInt8) (W : List (Int × List UInt8)) : List (Int × List UInt8) := if x.wcode i b.length = 0 then W ++ [(i, b)] else W
theorem wcode_zero {x : DS} {i : Int} {n : Nat} : x.wcode i n = 0 ↔ x.down = false ∧ x.has i = true ∧ n = 128 ∧ ¬ x.fuse = 0 := by
  unfold DS.wcode
  constructor
  · intro h
    split at h
    · cases h
    · split at h
      · cases h
      · split at h
        · cases h
        · split at h
          · cases h
          · split at h
            · cases h
            · rename_i h1 h2 h3 h4 h5
              exact ⟨by simpa using h1, by simpa using h2, by omega, h5⟩
  · rintro ⟨h1, h2, rfl, h4⟩
    rw [if_neg (by rw [h1]; decide), if_neg (by rw [h2]; decide), if_neg (by decide), if_neg (by decide), if_neg h4]
theorem write_zero {x : DS} {i : Int} {b : List UInt8} (h : x.wcode i b.length = 0) : x.write i b = { x.spend with S := upd x.S i b, wr := wrap64 (x.wr + 1) } := by
  obtain ⟨h1, h2, h3, h4⟩ := wcode_zero.1 h
  unfold DS.write
  rw [if_neg (by rw [h1]; decide), if_neg (by rw [h2]; decide), if_neg (by omega), if_neg (by omega), if_neg h4]
theorem write_else {x : DS} {i : Int} {b : List UInt8} (h : ¬ x.wcode i b.length = 0) : (x.write i b).S = x.S ∧ (x.write i b).s = x.s := by
  have hsp := x.spend_same
  unfold DS.wcode at h
  unfold DS.write
  split
  · exact ⟨rfl, rfl⟩
  · rename_i h1
    rw [if_neg h1] at h
    split
    · exact ⟨rfl, rfl⟩
    · rename_i h2
      rw [if_neg h2] at h
      split
      · exact ⟨rfl, rfl⟩
      · rename_i h3
        rw [if_neg h3] at h
        split
        · exact ⟨rfl, rfl⟩
        · rename_i h4
          rw [if_neg h4] at h
          split
          · exact hsp
          · rename_i h5
            rw [if_neg h5] at h
            exact absurd rfl h
theorem has_len {x y : DS} (h : y.s.length = x.s.length) (i : Int) : y.has i = x.has i := by unfold DS.has; rw [h]
theorem Link.of {x y : DS} {W : List (Int × List UInt8)} (h : Link x W) (hS : y.S = x.S) (hs : y.s = x.s) : Link y W :=
  ⟨(fun i => by rw [hS]; exact h.S i), (fun p hp => by rw [has_len (x := x) (y := y) (by rw [hs])]; exact h.inn p hp), (by rw [hs]; exact h.len)⟩
theorem Link.write {x : DS} {W : List (Int × List UInt8)} (h : Link x W) {i : Int} (hi : wfi i) (b : List UInt8) : Link (x.write i b) (putW x i b W) := by
  unfold putW
  by_cases h0 : x.wcode i b.length = 0
  · rw [if_pos h0, write_zero h0]
    obtain ⟨h1, h2, h3, h4⟩ := wcode_zero.1 h0
    have e := x.spend_same
    refine ⟨fun j => ?_, fun p hp => ?_, ?_⟩
    · rw [lastW_snoc]
      show upd x.S i b j = _
      unfold upd
      rw [h.S j]
      by_cases hj : j = i
      · rw [if_pos hj, if_pos hj.symm]
      · rw [if_neg hj, if_neg (fun e => hj e.symm)]
    · rw [has_len (x := x) (by show x.spend.s.length = _; rw [e.2])]
      rcases List.mem_append.1 hp with hp | hp
      · exact h.inn p hp
      · rw [List.mem_singleton.1 hp]
        exact ⟨hi, h2, h3⟩
    · show ∀ c ∈ x.spend.s, c.length = 128
      rw [e.2]
      exact h.len
  · rw [if_neg h0]
    obtain ⟨e1, e2⟩ := write_else h0
    exact h.of e1 e2
def flushW (x : DS) (W : List (Int × List UInt8)) : List (Int × List UInt8) := if x.fcode = 0 then [] else W
theorem laid_len {x : DS} {W : List (Int × List UInt8)} (h : Link x W) (left : Int → Bool) : ∀ b ∈ laid x.s x.S left, b.length = 128 := by
  intro b hb
  unfold laid at hb
  obtain ⟨i, hi, rfl⟩ := List.mem_mapIdx.1 hb
  split
  · exact h.len _ (List.getElem_mem _)
  · cases hS : x.S (i : Int) with
    | none => exact h.len _ (List.getElem_mem _)
    | some l => exact (h.at hS).2.2
theorem Link.flush {x : DS} {W : List (Int × List UInt8)} (h : Link x W) : Link x.flush (flushW x W) := by
  have hsp := x.spend_same
  unfold flushW DS.flush DS.fcode
  by_cases h1 : x.down = true
  · rw [if_pos h1, if_pos h1, if_neg (by decide)]
    exact h
  · rw [if_neg h1, if_neg h1]
    by_cases h2 : x.fuse = 0
    · rw [if_pos h2, if_pos h2, if_neg (by decide)]
      exact h.of hsp.1 hsp.2
    · rw [if_neg h2, if_neg h2, if_pos rfl]
      exact ⟨fun i => rfl, (fun p hp => by cases hp), laid_len h (fun _ => false)⟩
theorem flush_get {x : DS} (h1 : x.down = false) (h2 : ¬ x.fuse = 0) {i : Nat} (hi : i < x.s.length) : x.flush.s.getD i [] = (x.S (i : Int)).getD (x.s.getD i []) := by
  unfold DS.flush
  rw [if_neg (by rw [h1]; decide), if_neg h2]
  show (laid x.s x.S fun _ => false).getD i [] = _
  unfold laid
  simp [List.getD_eq_getElem?_getD, hi]
theorem settle_get {y : DS} {k a : Int} {i : Nat} (hi : i < y.s.length) (hk : ∀ l, y.S k = some l → 0 ≤ k) :
    (y.settle k a).s.getD i [] = match y.S k with
      | some l => if k = (i : Int) then l.take (min (max a 0) 128).toNat ++ (y.s.getD i []).drop (min (max a 0) 128).toNat else y.s.getD i []
      | none => y.s.getD i [] := by
  unfold DS.settle
  cases hS : y.S k with
  | none => rfl
  | some l =>
    have h0 := hk l hS
    obtain ⟨n, rfl⟩ : ∃ n : Nat, k = (n : Int) := ⟨k.toNat, by omega⟩
    simp only [Int.toNat_natCast]
    by_cases e : n = i
    · subst e
      rw [if_pos rfl]
      simp [List.getD_eq_getElem?_getD, hi]
    · rw [if_neg (by omega)]
      simp only [List.getD_eq_getElem?_getD]
      rw [List.getElem?_set_ne e]
theorem settles_get {x : DS} {W : List (Int × List UInt8)} (hL : Link x W) {i : Nat} (hi : i < x.s.length) : ∀ (K : List Int) (y : DS), y.S = x.S → y.s.length = x.s.length → (y.s.getD i []).length = 128 →
    (K.foldl (fun y j => y.settle j 128) y).s.getD i [] = match x.S (i : Int) with
      | some l => if (i : Int) ∈ K then l else y.s.getD i []
      | none => y.s.getD i []
  | [], y, hS, hn, hl => by
    simp only [List.foldl_nil]
    cases x.S (i : Int) <;> simp
  | k :: K, y, hS, hn, hl => by
    have hk0 : ∀ l, y.S k = some l → 0 ≤ k := fun l h => by
      rw [hS] at h
      have := (hL.at h).2.1
      simp [DS.has] at this
      exact this.1
    have hg := settle_get (y := y) (k := k) (a := 128) (i := i) (by omega) hk0
    have e1 : (min (max (128 : Int) 0) 128).toNat = 128 := by decide
    rw [e1] at hg
    have hss := settle_same y k 128
    have hd : (y.s.getD i []).drop 128 = [] := List.drop_eq_nil_of_le (by omega)
    rw [hd] at hg
    have hlen1 : ((y.settle k 128).s.getD i []).length = 128 := by
      rw [hg]
      cases hk : y.S k with
      | none => exact hl
      | some l =>
        have := (hL.at (hS ▸ hk)).2.2
        show (if k = (i : Int) then l.take 128 ++ [] else y.s.getD i []).length = 128
        split
        · simp; omega
        · exact hl
    have ih := settles_get hL hi K (y.settle k 128) (hss.1.trans hS) (hss.2.trans hn) hlen1
    rw [List.foldl_cons, ih, hg]
    cases hxi : x.S (i : Int) with
    | none =>
      cases hk : y.S k with
      | none => rfl
      | some l =>
        show (if k = (i : Int) then l.take 128 ++ [] else y.s.getD i []) = _
        rw [if_neg]
        intro e
        rw [e, hS, hxi] at hk
        cases hk
    | some l =>
      have hl128 := (hL.at hxi).2.2
      show (if (i : Int) ∈ K then l else _) = (if (i : Int) ∈ k :: K then l else _)
      by_cases hK : (i : Int) ∈ K
      · rw [if_pos hK, if_pos (by simp [hK])]
      · rw [if_neg hK]
        by_cases e : k = (i : Int)
        · rw [if_pos (by simp [e])]
          have hk : y.S k = some l := by rw [e, hS, hxi]
          rw [hk]
          show (if k = (i : Int) then l.take 128 ++ [] else y.s.getD i []) = l
          rw [if_pos e, List.append_nil, List.take_of_length_le (by omega)]
        · rw [if_neg (by simp [hK]; exact fun e' => e e'.symm)]
          cases hk : y.S k with
          | none => rfl
          | some l' =>
            show (if k = (i : Int) then _ else y.s.getD i []) = _
            rw [if_neg e]
theorem crash_get {x : DS} {W : List (Int × List UInt8)} (hL : Link x W) (K : List Int) (t a : Int) {i : Nat} (hi : i < x.s.length) :
    (x.crash K t a).s.getD i [] = match x.S (i : Int) with
      | some l => if (i : Int) ∈ K then l else if t = (i : Int) then l.take (min (max a 0) 128).toNat ++ (x.s.getD i []).drop (min (max a 0) 128).toNat else x.s.getD i []
      | none => x.s.getD i [] := by
  have hl : (x.s.getD i []).length = 128 := hL.len _ (by simp [List.getD, hi])
  have h1 := settles_get hL hi K x rfl rfl hl
  obtain ⟨y, hy⟩ : ∃ y, y = K.foldl (fun y j => y.settle j 128) x := ⟨_, rfl⟩
  have hss := settles_same K x
  rw [← hy] at h1 hss
  have hk0 : ∀ l, y.S t = some l → 0 ≤ t := fun l h => by
    rw [hss.1] at h
    have := (hL.at h).2.1
    simp [DS.has] at this
    exact this.1
  have hg := settle_get (y := y) (k := t) (a := a) (i := i) (by omega) hk0
  have e : (x.crash K t a).s = (y.settle t a).s := by unfold DS.crash; rw [hy]
  rw [e, hg, h1, hss.1]
  generalize (min (max a 0) 128).toNat = q
  cases hxi : x.S (i : Int) with
  | none =>
    cases ht : x.S t with
    | none => rfl
    | some l =>
      show (if t = (i : Int) then _ else x.s.getD i []) = _
      rw [if_neg]
      intro e
      rw [e, hxi] at ht
      cases ht
  | some l =>
    by_cases e : t = (i : Int)
    · rw [e, hxi]
      show (if (i : Int) = (i : Int) then l.take q ++ (if (i : Int) ∈ K then l else x.s.getD i []).drop q else _) = (if (i : Int) ∈ K then l else if (i : Int) = (i : Int) then _ else _)
      rw [if_pos rfl, if_pos rfl]
      split
      · exact List.take_append_drop q l
      · rfl
    · cases ht : x.S t with
      | none =>
        show (if (i : Int) ∈ K then l else x.s.getD i []) = (if (i : Int) ∈ K then l else if t = (i : Int) then _ else x.s.getD i [])
        rw [if_neg e]
      | some l' =>
        show (if t = (i : Int) then _ else (if (i : Int) ∈ K then l else x.s.getD i [])) = (if (i : Int) ∈ K then l else if t = (i : Int) then _ else x.s.getD i [])
        rw [if_neg e, if_neg e]
theorem crash_len (x : DS) (K : List Int) (t a : Int) : (x.crash K t a).s.length = x.s.length := by
  unfold DS.crash
  show ((K.foldl (fun y j => y.settle j 128) x).settle t a).s.length = _
  rw [(settle_same _ t a).2, (settles_same K x).2]
theorem Link.crash {x : DS} {W : List (Int × List UInt8)} (h : Link x W) (K : List Int) (t a : Int) : Link (x.crash K t a) [] := by
  refine ⟨fun i => rfl, (fun p hp => by cases hp), fun b hb => ?_⟩
  obtain ⟨i, hi, rfl⟩ := List.mem_iff_getElem.1 hb
  rw [crash_len] at hi
  have hg := crash_get h K t a hi
  have hl : (x.s.getD i []).length = 128 := h.len _ (by simp [List.getD, hi])
  rw [List.getD_eq_getElem?_getD, List.getElem?_eq_getElem (by rw [crash_len]; exact hi), Option.getD_some] at hg
  rw [hg]
  cases hx : x.S (i : Int) with
  | none => exact hl
  | some l =>
    have h2 := (h.at hx).2.2
    show (if (i : Int) ∈ K then l else if t = (i : Int) then _ else _).length = 128
    split
    · exact h2
    · split
      · rw [List.length_append, List.length_take, List.length_drop, h2, hl]
        omega
      · exact hl
def upW (x : DS) (W : List (Int × List UInt8)) : List (Int × List UInt8) := if x.down = true then [] else W
theorem Link.up {x : DS} {W : List (Int × List UInt8)} (h : Link x W) : Link x.up (upW x W) := by
  unfold DS.up upW
  by_cases hd : x.down = true
  · rw [if_pos hd, if_pos hd]
    exact ⟨fun i => rfl, (fun p hp => by cases hp), h.len⟩
  · rw [if_neg hd, if_neg hd]
    exact h
theorem Link.fuse {x : DS} {W : List (Int × List UInt8)} (h : Link x W) (z : Int) : Link { x with fuse := z } W := h.of rfl rfl
theorem Link.spoil {x : DS} {W : List (Int × List UInt8)} (h : Link x W) {k q : Nat} (hk : k < x.s.length) (v : UInt8) : Link (x.spoil k q v) W := by
  refine ⟨h.S, fun p hp => ?_, fun b hb => ?_⟩
  · rw [has_len (x := x) (by simp [DS.spoil])]
    exact h.inn p hp
  · simp only [DS.spoil] at hb
    rcases List.mem_or_eq_of_mem_set hb with hb | rfl
    · exact h.len b hb
    · rw [List.length_set]
      exact h.len _ (by simp [List.getD, hk])
end Go.Proofs.Ythcliaaoadfegaa.Dk
