/- Each is done, and once: what a poll and a finish do; that it comes to an end. -/
import Derived.Test.YtkmhbbcppjckiaaMY6
namespace Go.Proofs.Ytkmhbbcppjckiaa.Ma
open Go Go.RowKit Go.Proofs.Ytkmhbbcppjckiaa
open Go.Proofs.Ytkmhbbcppjckiaa.Hp (i64wf K3 wf3)
open Go.Proofs.Ytkmhbbcppjckiaa.Qu
set_option linter.unusedVariables false
set_option linter.unusedSimpArgs false
set_option maxRecDepth 100000
variable {M : MM} {k x : K3} {n : Nat} {D : Nat → Bool} {now : Int}
theorem count_one (x k : K3) : [k].count x = if x = k then 1 else 0 := by
  rw [List.count_cons, List.count_nil]
  by_cases hx : x = k
  · rw [if_pos hx, hx]; simp
  · rw [if_neg hx]; simp [Ne.symm hx]
theorem pl_spec (h : M.one) (wk kind now : Int) (he : M.plE wk kind = 0) : ∃ j, j < 65 ∧ (j = wk.toNat ∨ j = 0) ∧ (∀ x, (M.pl wk kind now).ct x + (if x = (M.plL wk kind now).key then 1 else 0) = M.ct x) ∧ (∀ x, (M.pl wk kind now).ce x = M.ce x + if x = (M.plL wk kind now).key then 1 else 0) ∧ (M.pl wk kind now).E = M.E ++ [M.plL wk kind now] ∧ (M.pl wk kind now).giv = M.giv + 1 ∧ (∀ q, q ≠ j → (M.pl wk kind now).W q = M.W q) ∧ M.plL wk kind now = ⟨M.giv + 1, (M.plL wk kind now).key, wk, now + 20⟩ := by
  have hp := he
  have hj : wk.toNat < 65 ∧ (M.t2 wk.toNat kind).2 = true := by
    unfold MM.plE at hp
    cases hi : isW wk with
    | false => rw [if_pos hi] at hp; cases hp
    | true =>
      rw [if_neg (by rw [hi]; decide)] at hp
      split at hp
      · cases hp
      · split at hp
        · cases hp
        · rename_i ht
          refine ⟨?_, by simpa using ht⟩
          simp only [isW, Bool.and_eq_true, decide_eq_true_eq] at hi
          omega
  have eL : M.plL wk kind now = ⟨M.giv + 1, (M.t2 wk.toNat kind).1, wk, now + 20⟩ := by unfold MM.plL; rw [if_pos he]
  have eP : (M.pl wk kind now).E = M.E ++ [M.plL wk kind now] ∧ (M.pl wk kind now).giv = M.giv + 1 ∧ (M.pl wk kind now).W = (M.t2M wk.toNat kind).W := by unfold MM.pl; rw [if_pos he]; exact ⟨rfl, rfl, rfl⟩
  have hce : ∀ x, (M.pl wk kind now).ce x = M.ce x + if x = (M.plL wk kind now).key then 1 else 0 := fun x => by
    unfold MM.ce
    rw [eP.1, List.map_append, List.count_append, List.map_cons, List.map_nil, count_one]
  have key : ∃ j, j < 65 ∧ (j = wk.toNat ∨ j = 0) ∧ M.t2M wk.toNat kind = M.tk j kind ∧ fiK kind (keysT (M.W j)) = ((M.t2 wk.toNat kind).1, true) := by
    obtain ⟨hj, ht⟩ := hj
    by_cases h1 : (fiK kind (keysT (M.W wk.toNat))).2 = true
    · refine ⟨wk.toNat, hj, .inl rfl, by unfold MM.t2M; rw [if_pos h1], ?_⟩
      unfold MM.t2
      rw [if_pos h1]
      exact Prod.ext rfl h1
    · unfold MM.t2 at ht ⊢
      rw [if_neg h1] at ht ⊢
      exact ⟨0, by decide, .inr rfl, by unfold MM.t2M; rw [if_neg h1], Prod.ext rfl ht⟩
  obtain ⟨j, hj65, hjw, ht, hf⟩ := key
  refine ⟨j, hj65, hjw, fun x => ?_, hce, eP.1, eP.2.1, fun q hq => ?_, by rw [eL]⟩
  · have a := tk_ct hj65 kind hf h x
    have b : (M.pl wk kind now).ct x = (M.tk j kind).ct x := ct_of (by rw [eP.2.2, ht]) x
    have c : (M.plL wk kind now).key = (M.t2 wk.toNat kind).1 := by rw [eL]
    rw [b, c]
    exact a
  · rw [eP.2.2, ht]
    unfold MM.tk
    rw [hf]
    exact updQ_ne _ _ hq
theorem HJ.pl (h : HJ n M D now []) {w : Nat} (h1 : 1 ≤ w) (h2 : w < 5) (he : M.plE (w : Int) 1 = 0) : HJ n (M.pl (w : Int) 1 now) D now [] := by
  obtain ⟨j, hj, hjw, hct, hce, hE, hg, hW, hL⟩ := pl_spec h.one (w : Int) 1 now he
  rw [Int.toNat_natCast] at hjw
  have hz : ∀ x, (([] : List Ls).map Ls.key).count x = 0 := fun x => rfl
  have hlen : (M.E ++ [M.plL (w : Int) 1 now]).length ≤ n := by
    have hone := h.one
    have hk : (M.E.map Ls.key ++ [(M.plL (w : Int) 1 now).key]).Nodup := by
      rw [List.nodup_iff_count]
      intro x
      rw [List.count_append, count_one]
      have a := hct x
      have b := hone x
      have c : M.ce x = (M.E.map Ls.key).count x := by unfold MM.ce; rfl
      omega
    have := nodup_len n _ hk fun x hx => by
      rcases List.mem_append.1 hx with hx | hx
      · have c : M.ce x = (M.E.map Ls.key).count x := by unfold MM.ce; rfl
        have d := List.count_pos_iff.2 hx
        obtain ⟨i, hi, e, _⟩ := h.key (x := x) (by omega)
        exact ⟨i, hi, e⟩
      · rw [List.mem_singleton.1 hx]
        have a := hct (M.plL (w : Int) 1 now).key
        rw [if_pos rfl] at a
        obtain ⟨i, hi, e, _⟩ := h.key (x := (M.plL (w : Int) 1 now).key) (by omega)
        exact ⟨i, hi, e⟩
    simpa using this
  refine ⟨fun i hi => ?_, fun x hx => ?_, ⟨?_, fun l hl => ?_⟩, fun q hq hq2 => ?_, fun l hl => ?_, by rw [hE]; exact hlen⟩
  · have := h.cnt i hi
    have a := hct (kh i)
    have b := hce (kh i)
    rw [hz] at this ⊢
    rw [← this]
    omega
  · have := h.oth x hx
    have a := hct x
    have b := hce x
    rw [hz] at this ⊢
    omega
  · rw [hE, List.map_append, List.nodup_append]
    refine ⟨h.tok.1, by simp, fun a ha b hb e => ?_⟩
    obtain ⟨l, hl, rfl⟩ := List.mem_map.1 ha
    have := h.tok.2 l hl
    simp only [List.map_cons, List.map_nil, List.mem_singleton] at hb
    rw [hL] at hb
    simp only at hb
    omega
  · rw [hg]
    rw [hE] at hl
    rcases List.mem_append.1 hl with hl | hl
    · have := h.tok.2 l hl; omega
    · rw [List.mem_singleton.1 hl, hL]
      exact Int.le_refl _
  · rw [hW q (by omega)]
    exact h.qs q hq hq2
  · rw [hE] at hl
    rcases List.mem_append.1 hl with hl | hl
    · exact h.til l hl
    · rw [List.mem_singleton.1 hl, hL]
      exact Int.le_refl _
theorem HJ.plE (h : HJ n M D now []) (hn : n ≤ 40) {w : Nat} (h1 : 1 ≤ w) (h2 : w < 5) : M.plE (w : Int) 1 = 0 ∨ (M.plE (w : Int) 1 = 4 ∧ M.W w = [] ∧ M.W 0 = []) := by
  have hi : isW (w : Int) = true := by simp only [isW, Bool.and_eq_true, decide_eq_true_eq]; omega
  have hf := h.few
  have hfi : ∀ j, j < 65 → (fiK 1 (keysT (M.W j))).2 = false → M.W j = [] := fun j hj hf => by
    have hno := (fiK_none (kind := 1) (l := keysT (M.W j)) (k := (fiK 1 (keysT (M.W j))).1) (Prod.ext rfl hf)).2
    cases hW : M.W j with
    | nil => rfl
    | cons a W' =>
      have hm : a.1 ∈ keysT (M.W j) := by rw [hW]; simp [keysT]
      have hc := ct_le (M := M) hj a.1
      have hp := List.count_pos_iff.2 hm
      obtain ⟨i, _, e, _⟩ := h.key (x := a.1) (by omega)
      exact absurd (by rw [e]; rfl) (hno a.1 hm)
  unfold MM.plE
  rw [if_neg (by rw [hi]; decide), if_neg (by omega), Int.toNat_natCast]
  by_cases ht : (M.t2 w 1).2 = false
  · rw [if_pos ht]
    right
    unfold MM.t2 at ht
    by_cases hw : (fiK 1 (keysT (M.W w))).2 = true
    · rw [if_pos hw, hw] at ht; cases ht
    · rw [if_neg hw] at ht
      exact ⟨rfl, hfi w (by omega) (by simpa using hw), hfi 0 (by decide) ht⟩
  · rw [if_neg ht]
    exact .inl rfl
/-- One more is done. -/
def setD (D : Nat → Bool) (i : Nat) : Nat → Bool := fun j => if j = i then true else D j
def rem (D : Nat → Bool) (n : Nat) : Nat := ((List.range n).filter fun i => !D i).length
theorem rem_set {D : Nat → Bool} {i : Nat} (hd : D i = false) : ∀ n, rem (setD D i) n + (if i < n then 1 else 0) = rem D n
  | 0 => rfl
  | n + 1 => by
    have ih := rem_set hd n
    unfold rem at ih ⊢
    rw [List.range_succ, List.filter_append, List.filter_append, List.length_append, List.length_append]
    have e : ∀ D' : Nat → Bool, ([n].filter fun i => !D' i).length = if D' n = true then 0 else 1 := fun D' => by cases h : D' n <;> simp [h]
    rw [e, e]
    by_cases hin : n = i
    · subst hin
      rw [if_neg (by omega)] at ih
      rw [if_pos (by unfold setD; rw [if_pos rfl]), hd, if_pos (by omega)]
      simp only [Bool.false_eq_true, if_false]
      omega
    · have : setD D i n = D n := if_neg hin
      rw [this]
      by_cases h : i < n
      · rw [if_pos h] at ih; rw [show (if i < n + 1 then 1 else 0) = 1 from if_pos (by omega)]; omega
      · rw [if_neg h] at ih; rw [show (if i < n + 1 then 1 else 0) = 0 from if_neg (by omega)]; omega
theorem rem_le (D : Nat → Bool) (n : Nat) : rem D n ≤ n := by
  unfold rem
  exact Nat.le_trans (List.length_filter_le _ _) (by simp)
theorem rem_zero {D : Nat → Bool} {n : Nat} (h : rem D n = 0) : ∀ i, i < n → D i = true := by
  intro i hi
  have : (List.range n).filter (fun i => !D i) = [] := List.eq_nil_of_length_eq_zero h
  have h2 := (List.filter_eq_nil_iff.1 this) i (List.mem_range.2 hi)
  simpa using h2
theorem dn_ce (hn : (M.E.map Ls.tok).Nodup) {l : Ls} (hl : l ∈ M.E) (x : K3) : (M.dn l.tok).ce x + (if x = l.key then 1 else 0) = M.ce x := by
  have h1 : M.E.filter (fun a => decide (a.tok = l.tok)) = [l] := by
    obtain ⟨A, B, hE⟩ := List.append_of_mem hl
    rw [hE] at hn ⊢
    simp only [List.map_append, List.map_cons, List.nodup_append, List.nodup_cons] at hn
    have fA : A.filter (fun a => decide (a.tok = l.tok)) = [] := by
      rw [List.filter_eq_nil_iff]
      intro a ha e
      exact hn.2.2 a.tok (List.mem_map.2 ⟨a, ha, rfl⟩) l.tok (by simp) (by simpa using e)
    have fB : B.filter (fun a => decide (a.tok = l.tok)) = [] := by
      rw [List.filter_eq_nil_iff]
      intro a ha e
      exact hn.2.1.1 (by rw [← (by simpa using e : a.tok = l.tok)]; exact List.mem_map.2 ⟨a, ha, rfl⟩)
    rw [List.filter_append, List.filter_cons, fA, fB]
    simp
  have h2 := filter_ce (fun a => decide (a.tok = l.tok)) M.E x
  rw [h1] at h2
  have h3 : (M.dn l.tok).ce x = ((M.E.filter fun a => !decide (a.tok = l.tok)).map Ls.key).count x := by unfold MM.ce MM.dn MM.l; rfl
  have h4 : M.ce x = (M.E.map Ls.key).count x := by unfold MM.ce; rfl
  rw [List.map_cons, List.map_nil, count_one] at h2
  omega
theorem HJ.done (h : HJ n M D now []) {l : Ls} (hl : l ∈ M.E) : ∃ i, i < n ∧ l.key = kh i ∧ D i = false ∧ HJ n (M.dn l.tok) (setD D i) now [] := by
  have hp : 0 < M.ce l.key := by
    have : M.ce l.key = (M.E.map Ls.key).count l.key := by unfold MM.ce; rfl
    rw [this]
    exact List.count_pos_iff.2 (List.mem_map.2 ⟨l, hl, rfl⟩)
  obtain ⟨i, hi, e, hd⟩ := h.key (x := l.key) (by omega)
  have hz : ∀ x, (([] : List Ls).map Ls.key).count x = 0 := fun x => rfl
  have hct : ∀ x, (M.dn l.tok).ct x = M.ct x := fun x => ct_of (by unfold MM.dn MM.l; dsimp only) x
  have eE : (M.dn l.tok).E = M.E.filter fun a => !decide (a.tok = l.tok) := by unfold MM.dn MM.l; dsimp only
  have eg : (M.dn l.tok).giv = M.giv := by unfold MM.dn MM.l; dsimp only
  refine ⟨i, hi, e, hd, ⟨fun j hj => ?_, fun x hx => ?_, ⟨?_, fun a ha => ?_⟩, ?_, fun a ha => ?_, ?_⟩⟩
  · have a := h.cnt j hj
    have b := dn_ce h.tok.1 hl (kh j)
    rw [hz] at a ⊢
    rw [hct]
    by_cases ej : j = i
    · subst ej
      rw [e, if_pos rfl] at b
      rw [hd] at a
      simp only [Bool.false_eq_true, if_false] at a
      rw [show setD D j j = true from if_pos rfl, if_pos rfl]
      rw [e] at hp
      omega
    · rw [if_neg (fun e2 => ej (kh_inj (e2.trans e)))] at b
      rw [show setD D i j = D j from if_neg ej]
      omega
  · have a := h.oth x hx
    have b := dn_ce h.tok.1 hl x
    rw [hz] at a ⊢
    rw [hct]
    omega
  · rw [eE]
    exact h.tok.1.sublist (List.Sublist.map _ List.filter_sublist)
  · rw [eE] at ha
    rw [eg]
    exact h.tok.2 a (List.mem_filter.1 ha).1
  · intro j hj hj2
    have := h.qs j hj hj2
    unfold MM.dn MM.l
    exact this
  · rw [eE] at ha
    exact h.til a (List.mem_filter.1 ha).1
  · rw [eE]
    exact Nat.le_trans (List.length_filter_le _ _) h.few
theorem gt_mem {tok : Int} (h : (M.gt tok now).2 = 0) : (M.gt tok now).1 ∈ M.E ∧ (M.gt tok now).1.tok = tok := by
  unfold MM.gt at h ⊢
  cases hf : M.E.find? (fun l => decide (l.tok = tok)) with
  | none => rw [hf] at h; cases h
  | some l =>
    rw [hf] at h
    dsimp only at h ⊢
    split at h
    · cases h
    · rename_i ht
      rw [if_neg ht]
      exact ⟨List.mem_of_find?_eq_some hf, by simpa using List.find?_some hf⟩
theorem gt_cases (M : MM) (tok now : Int) : (M.gt tok now).2 = 0 ∨ ((M.gt tok now).2 = 210 ∧ (M.gt tok now).1 = l0) := by
  unfold MM.gt
  split
  · split
    · exact .inr ⟨rfl, rfl⟩
    · exact .inl rfl
  · exact .inr ⟨rfl, rfl⟩
theorem any_tok {l : Ls} (hl : l ∈ M.E) : (M.E.any fun a => decide (a.tok = l.tok)) = true := by
  simp only [List.any_eq_true, decide_eq_true_eq]
  exact ⟨l, hl, rfl⟩
/-- What was just polled is had. -/
theorem pl_gt (h : HJ n M D now []) {w : Nat} (he : M.plE (w : Int) 1 = 0) : (M.pl (w : Int) 1 now).gt (M.plL (w : Int) 1 now).tok now = (M.plL (w : Int) 1 now, 0) ∧ ((M.pl (w : Int) 1 now).dn (M.plL (w : Int) 1 now).tok).E = M.E := by
  obtain ⟨j, hj, hjw, hct, hce, hE, hg, hW, hL⟩ := pl_spec h.one (w : Int) 1 now he
  obtain ⟨L, hLe⟩ : ∃ L, L = M.plL (w : Int) 1 now := ⟨_, rfl⟩
  rw [← hLe] at hE hL ⊢
  have ht : L.tok = M.giv + 1 := by rw [hL]
  have htl : L.til = now + 20 := by rw [hL]
  have hf : M.E.find? (fun l => decide (l.tok = L.tok)) = none := by
    rw [List.find?_eq_none]
    intro a ha e
    have := h.tok.2 a ha
    have : a.tok = L.tok := by simpa using e
    omega
  refine ⟨?_, ?_⟩
  · unfold MM.gt
    rw [hE, List.find?_append, hf]
    simp only [Option.none_or, List.find?_cons, decide_true]
    rw [if_neg (by omega)]
  · unfold MM.dn MM.l
    dsimp only
    rw [hE, List.filter_append]
    have h1 : M.E.filter (fun l => !decide (l.tok = L.tok)) = M.E := by
      rw [List.filter_eq_self]
      intro a ha
      have := h.tok.2 a ha
      have : a.tok ≠ L.tok := by omega
      simp [this]
    rw [h1]
    simp
/-- Nothing waits, nobody has a task: all is done. -/
theorem HJ.over (h : HJ n M D now []) (hE : M.E = []) (hW : ∀ j, j < 5 → M.W j = []) : rem D n = 0 := by
  unfold rem
  have : (List.range n).filter (fun i => !D i) = [] := by
    rw [List.filter_eq_nil_iff]
    intro i hi
    have hi := List.mem_range.1 hi
    have a := h.cnt i hi
    have hz : (([] : List Ls).map Ls.key).count (kh i) = 0 := rfl
    have b : M.ce (kh i) = 0 := by unfold MM.ce; rw [hE]; rfl
    have c : M.ct (kh i) = 0 := by
      rcases Nat.eq_zero_or_pos (M.ct (kh i)) with h0 | h0
      · exact h0
      · have e : M.ct (kh i) = M.wt.count (kh i) := by unfold MM.ct; rfl
        rw [e] at h0
        have hm := List.count_pos_iff.1 h0
        unfold MM.wt at hm
        obtain ⟨j, hj, hm⟩ := (wtK_mem 65).1 hm
        by_cases h5 : j < 5
        · rw [hW j h5] at hm; cases hm
        · rw [h.qs j (by omega) hj] at hm; cases hm
    rw [b, c, hz] at a
    cases hd : D i with
    | true => simp
    | false => rw [hd] at a; simp at a
  rw [this]
  rfl
theorem HJ.end (h : HJ n M D now []) (hr : rem D n = 0) : M.wt = [] ∧ M.E = [] := by
  have hz : ∀ x, (([] : List Ls).map Ls.key).count x = 0 := fun x => rfl
  have h0 : ∀ x, M.ct x + M.ce x = 0 := fun x => by
    by_cases hx : ∃ i, i < n ∧ x = kh i
    · obtain ⟨i, hi, rfl⟩ := hx
      have := h.cnt i hi
      rw [rem_zero hr i hi, if_pos rfl, hz] at this
      omega
    · have := h.oth x fun i hi e => hx ⟨i, hi, e⟩
      rw [hz] at this
      omega
  refine ⟨?_, ?_⟩
  · cases hw : M.wt with
    | nil => rfl
    | cons a W =>
      have := h0 a
      have e : M.ct a = M.wt.count a := by unfold MM.ct; rfl
      rw [hw, List.count_cons_self] at e
      omega
  · cases hE : M.E with
    | nil => rfl
    | cons a W =>
      have := h0 a.key
      have e : M.ce a.key = (M.E.map Ls.key).count a.key := by unfold MM.ce; rfl
      rw [hE, List.map_cons, List.count_cons_self] at e
      omega
end Go.Proofs.Ytkmhbbcppjckiaa.Ma
