/- Each is done, and once: the theory of WholeHanded. -/
import Derived.Test.YtkmhbbcppjckiaaMY1
namespace Go.Proofs.Ytkmhbbcppjckiaa.Ma
open Go Go.RowKit Go.Proofs.Ytkmhbbcppjckiaa
open Go.Proofs.Ytkmhbbcppjckiaa.Hp (i64wf K3 wf3)
open Go.Proofs.Ytkmhbbcppjckiaa.Qu
set_option linter.unusedVariables false
set_option linter.unusedSimpArgs false
set_option maxRecDepth 100000
variable {M : MM} {k x : K3} {n : Nat} {D : Nat → Bool} {now : Int}
def kh (i : Nat) : K3 := ((i : Int), 1, 0)
theorem kh_inj {i j : Nat} (h : kh i = kh j) : i = j := by
  have := congrArg Prod.fst h
  simp only [kh] at this
  omega
/-- What holds of n tasks, of which some are done, some are out (F), the others wait or somebody has them. -/
structure HJ (n : Nat) (M : MM) (D : Nat → Bool) (now : Int) (F : List Ls) : Prop where
  cnt : ∀ i, i < n → M.ct (kh i) + M.ce (kh i) + (F.map Ls.key).count (kh i) = if D i = true then 0 else 1
  oth : ∀ x, (∀ i, i < n → x ≠ kh i) → M.ct x + M.ce x + (F.map Ls.key).count x = 0
  tok : (M.E.map Ls.tok).Nodup ∧ ∀ l ∈ M.E, l.tok ≤ M.giv
  qs : ∀ j, 5 ≤ j → j < 65 → M.W j = []
  til : ∀ l ∈ M.E, l.til ≤ now + 20
  few : M.E.length ≤ n
theorem HJ.one {F : List Ls} (h : HJ n M D now F) : M.one := by
  intro x
  by_cases hx : ∃ i, i < n ∧ x = kh i
  · obtain ⟨i, hi, rfl⟩ := hx
    have := h.cnt i hi
    split at this <;> omega
  · have := h.oth x fun i hi e => hx ⟨i, hi, e⟩
    omega
theorem HJ.key {F : List Ls} (h : HJ n M D now F) {x : K3} (hx : 0 < M.ct x + M.ce x + (F.map Ls.key).count x) : ∃ i, i < n ∧ x = kh i ∧ D i = false := by
  by_cases hq : ∃ i, i < n ∧ x = kh i
  · obtain ⟨i, hi, rfl⟩ := hq
    refine ⟨i, hi, rfl, ?_⟩
    have := h.cnt i hi
    cases hd : D i with
    | false => rfl
    | true => rw [hd, if_pos rfl] at this; omega
  · have := h.oth x fun i hi e => hq ⟨i, hi, e⟩
    omega
theorem nodup_len : ∀ (n : Nat) (l : List K3), l.Nodup → (∀ x ∈ l, ∃ i, i < n ∧ x = kh i) → l.length ≤ n
  | 0, l, hn, h => by
    cases l with
    | nil => simp
    | cons a l => obtain ⟨i, hi, _⟩ := h a (by simp); omega
  | n + 1, l, hn, h => by
    have h1 := nodup_len n (l.filter fun x => !decide (x = kh n)) (hn.sublist List.filter_sublist) fun x hx => by
      have hf := List.mem_filter.1 hx
      obtain ⟨i, hi, e⟩ := h x hf.1
      refine ⟨i, ?_, e⟩
      have : x ≠ kh n := by simpa using hf.2
      have : i ≠ n := fun e2 => this (by rw [e, e2])
      omega
    have h2 : l.length ≤ (l.filter fun x => !decide (x = kh n)).length + 1 := by
      have hc := List.nodup_iff_count.1 hn (kh n)
      have h3 : l.length = (l.filter fun x => !decide (x = kh n)).length + l.count (kh n) := by
        clear hn h h1 hc
        induction l with
        | nil => rfl
        | cons a l ih =>
          by_cases e : a = kh n
          · subst e
            rw [List.filter_cons, if_neg (by simp), List.count_cons_self, List.length_cons, ih]
            omega
          · rw [List.filter_cons, if_pos (by simp [e]), List.count_cons_of_ne e, List.length_cons, List.length_cons, ih]
            omega
      omega
    omega
theorem HJ.len {F : List Ls} (h : HJ n M D now F) {j : Nat} (hj : j < 65) : (M.W j).length ≤ n := by
  have h1 := nodup_len n (keysT (M.W j)) (one_nodup h.one hj) fun x hx => by
    have a := ct_le (M := M) hj x
    have b := List.count_pos_iff.2 hx
    obtain ⟨i, hi, e, _⟩ := h.key (x := x) (by omega)
    exact ⟨i, hi, e⟩
  simpa [keysT] using h1
theorem HJ.wt {F : List Ls} (h : HJ n M D now F) : M.wt.length ≤ n := by
  have hn : M.wt.Nodup := (one_all h.one).sublist (List.sublist_append_left _ _)
  refine nodup_len n M.wt hn fun x hx => ?_
  have b := List.count_pos_iff.2 hx
  have a : M.ct x = M.wt.count x := by unfold MM.ct; rfl
  obtain ⟨i, hi, e, _⟩ := h.key (x := x) (by omega)
  exact ⟨i, hi, e⟩
theorem HJ.zero : HJ 0 M0 D now [] := by
  have h := zero_one
  refine ⟨fun i hi => by omega, fun x _ => ?_, ⟨List.nodup_nil, fun l hl => by cases hl⟩, fun j _ _ => rfl, (fun l hl => by cases hl), Nat.le_refl _⟩
  have h1 : M0.ct x = 0 := by
    unfold MM.ct MM.wt
    have : wtK M0.W 65 = [] := List.eq_nil_of_length_eq_zero (wtK_nil 65)
    rw [this]
    rfl
  have h2 : M0.ce x = 0 := by unfold MM.ce; rfl
  have h3 : (([] : List Ls).map Ls.key).count x = 0 := rfl
  omega
/-- One that is nowhere is added. -/
theorem ad_ct {j : Nat} (hj : j < 65) (hk : M.kn k = false) (hl : (M.W j).length < 128) (now : Int) : M.adE k (j : Int) = 0 ∧ (M.ad k (j : Int) now).E = M.E ∧ (M.ad k (j : Int) now).giv = M.giv ∧ (M.ad k (j : Int) now).W = updQ M.W j (M.W j ++ [(k, now)]) ∧ ∀ x, (M.ad k (j : Int) now).ct x = M.ct x + if x = k then 1 else 0 := by
  have hn : k ∉ keysT (M.W j) := fun hm => by
    have a := ct_le (M := M) hj k
    have b := List.count_pos_iff.2 hm
    have : M.kn k = true := (kn_spec M k).2 (by omega)
    rw [hk] at this
    cases this
  have h := MM.ad_new hk hj hn hl
  refine ⟨h.1, by rw [h.2]; rfl, by rw [h.2]; rfl, by rw [h.2]; rfl, fun x => ?_⟩
  rw [h.2]
  have h1 := ct_q (M := M) hj (M.W j ++ [(k, now)]) x
  rw [keysT_app, List.count_append] at h1
  have c3 : (keysT [(k, now)]).count x = if x = k then 1 else 0 := by
    rw [show keysT [(k, now)] = [k] from rfl, List.count_cons, List.count_nil]
    by_cases hx : x = k
    · rw [if_pos hx, hx]; simp
    · rw [if_neg hx]; simp [Ne.symm hx]
  omega
theorem HJ.first (h : HJ n M D now []) (hD : D n = false) (hn : n < 128) {j : Nat} (hj : j < 5) : M.adE (kh n) (j : Int) = 0 ∧ HJ (n + 1) (M.ad (kh n) (j : Int) now) D now [] := by
  have hz : ∀ x, (([] : List Ls).map Ls.key).count x = 0 := fun x => rfl
  have hk : M.kn (kh n) = false := by
    cases hq : M.kn (kh n) with
    | false => rfl
    | true =>
      obtain ⟨i, hi, e, _⟩ := h.key (x := kh n) (by have := (kn_spec M (kh n)).1 hq; omega)
      have := kh_inj e
      omega
  have hl := h.len (j := j) (by omega)
  obtain ⟨a1, a2, a3, a4, a5⟩ := ad_ct (j := j) (by omega) hk (by omega) now
  have ce : ∀ x, (M.ad (kh n) (j : Int) now).ce x = M.ce x := fun x => ce_of a2 x
  have hkz : M.ct (kh n) + M.ce (kh n) = 0 := by
    rcases Nat.eq_zero_or_pos (M.ct (kh n) + M.ce (kh n)) with h | h
    · exact h
    · rw [(kn_spec M (kh n)).2 h] at hk; cases hk
  refine ⟨a1, ⟨fun i hi => ?_, fun x hx => ?_, by rw [a2, a3]; exact h.tok, fun q hq hq2 => ?_, by rw [a2]; exact h.til, by rw [a2]; have := h.few; omega⟩⟩
  · rw [a5, ce, hz]
    by_cases e : i = n
    · subst e
      rw [if_pos rfl, hD]
      simp only [Bool.false_eq_true, if_false]
      omega
    · rw [if_neg (fun e2 => e (kh_inj e2))]
      have := h.cnt i (by omega)
      rw [hz] at this
      omega
  · rw [a5, ce, hz, if_neg (hx n (by omega))]
    have := h.oth x fun i hi => hx i (by omega)
    rw [hz] at this
    omega
  · rw [a4, updQ_ne _ _ (by omega)]
    exact h.qs q hq hq2
/-- One that is out is brought back: it waits for anybody. -/
theorem HJ.again {l : Ls} {F : List Ls} (h : HJ n M D now (l :: F)) (hn : n < 128) : M.adE l.key 0 = 0 ∧ HJ n (M.ad l.key 0 now) D now F := by
  have hc : ∀ x, ((l :: F).map Ls.key).count x = (F.map Ls.key).count x + if x = l.key then 1 else 0 := fun x => by
    rw [List.map_cons, List.count_cons]
    by_cases e : x = l.key
    · rw [if_pos e, e]; simp
    · rw [if_neg e]; simp [Ne.symm e]
  have hle : M.ct l.key + M.ce l.key = 0 := by
    obtain ⟨i, hi, e, hd⟩ := h.key (x := l.key) (by have := hc l.key; rw [if_pos rfl] at this; omega)
    have h1 := h.cnt i hi
    rw [hd] at h1
    simp only [Bool.false_eq_true, if_false] at h1
    rw [← e] at h1
    have := hc l.key
    rw [if_pos rfl] at this
    omega
  have hk : M.kn l.key = false := by
    cases hq : M.kn l.key with
    | false => rfl
    | true => have := (kn_spec M l.key).1 hq; omega
  have hl := h.len (j := 0) (by decide)
  have ha := ad_ct (j := 0) (by decide) hk (by omega) now
  rw [show ((0 : Nat) : Int) = 0 from rfl] at ha
  obtain ⟨a1, a2, a3, a4, a5⟩ := ha
  have ce : ∀ x, (M.ad l.key 0 now).ce x = M.ce x := fun x => ce_of a2 x
  refine ⟨a1, ⟨fun i hi => ?_, fun x hx => ?_, by rw [a2, a3]; exact h.tok, fun q hq hq2 => ?_, by rw [a2]; exact h.til, by rw [a2]; exact h.few⟩⟩
  · have := h.cnt i hi
    rw [hc] at this
    rw [a5, ce]
    omega
  · have := h.oth x hx
    rw [hc] at this
    rw [a5, ce]
    omega
  · rw [a4, updQ_ne _ _ (by omega)]
    exact h.qs q hq hq2
def agn (now : Int) : List Ls → MM → MM
  | [], M => M
  | l :: F, M => agn now F (M.ad l.key 0 now)
theorem agn_E : ∀ (F : List Ls) (M : MM), (agn now F M).E = M.E ∧ (agn now F M).giv = M.giv
  | [], M => ⟨rfl, rfl⟩
  | l :: F, M => by
    have h := agn_E F (M.ad l.key 0 now)
    have e : (M.ad l.key 0 now).E = M.E ∧ (M.ad l.key 0 now).giv = M.giv := by unfold MM.ad; split <;> exact ⟨rfl, rfl⟩
    exact ⟨h.1.trans e.1, h.2.trans e.2⟩
theorem HJ.agn (hn : n < 128) : ∀ (F : List Ls) (M : MM), HJ n M D now F → HJ n (agn now F M) D now []
  | [], M, h => h
  | l :: F, M, h => HJ.agn hn F _ (h.again hn).2
theorem HJ.later {F : List Ls} (h : HJ n M D now F) {now' : Int} (hl : now ≤ now') : HJ n M D now' F := ⟨h.cnt, h.oth, h.tok, h.qs, fun l hl' => by have := h.til l hl'; omega, h.few⟩
/-- Leases of which something holds are out. -/
theorem HJ.out {M1 : MM} (h : HJ n M D now []) (p : Ls → Bool) (hE : M1.E = M.E.filter fun l => !p l) (hg : M1.giv = M.giv) (hc : ∀ x, M1.ct x = M.ct x) (hq : ∀ j, 5 ≤ j → j < 65 → M1.W j = []) : HJ n M1 D now (M.E.filter p) := by
  have hce : ∀ x, M1.ce x + ((M.E.filter p).map Ls.key).count x = M.ce x := fun x => by
    have := filter_ce p M.E x
    have e1 : M1.ce x = ((M.E.filter fun l => !p l).map Ls.key).count x := by unfold MM.ce; rw [hE]
    have e2 : M.ce x = (M.E.map Ls.key).count x := by unfold MM.ce; rfl
    omega
  have hz : ∀ x, (([] : List Ls).map Ls.key).count x = 0 := fun x => rfl
  refine ⟨fun i hi => ?_, fun x hx => ?_, ⟨?_, fun l hl => ?_⟩, hq, fun l hl => ?_, ?_⟩
  · have := h.cnt i hi
    rw [hz] at this
    have := hce (kh i)
    have := hc (kh i)
    omega
  · have := h.oth x hx
    rw [hz] at this
    have := hce x
    have := hc x
    omega
  · rw [hE]
    exact h.tok.1.sublist (List.Sublist.map _ List.filter_sublist)
  · rw [hE] at hl
    rw [hg]
    exact h.tok.2 l (List.mem_filter.1 hl).1
  · rw [hE] at hl
    exact h.til l (List.mem_filter.1 hl).1
  · rw [hE]
    exact Nat.le_trans (List.length_filter_le _ _) h.few
theorem fr_W5 {own : Nat} (ho : own < 5) (h : ∀ j, 5 ≤ j → j < 65 → M.W j = []) (now : Int) : ∀ j, 5 ≤ j → j < 65 → (M.fr k own now).W j = [] := by
  intro j h1 h2
  unfold MM.fr
  split
  · show updQ (updQ M.W 0 _) own _ j = []
    rw [updQ_ne _ _ (by omega), updQ_ne _ _ (by omega)]
    exact h j h1 h2
  · exact h j h1 h2
theorem frs_W5 {own : Nat} (ho : own < 5) (now : Int) : ∀ (l : List K3) (M : MM), (∀ j, 5 ≤ j → j < 65 → M.W j = []) → ∀ j, 5 ≤ j → j < 65 → (frs now own l M).W j = []
  | [], M, h => h
  | k :: l, M, h => by
    rw [frs]
    exact frs_W5 ho now l _ (fr_W5 ho h now)
theorem exG_W5 (now : Int) : ∀ (n i : Nat) (M : MM), (∀ j, 5 ≤ j → j < 65 → M.W j = []) → i + n ≤ 65 → ∀ j, 5 ≤ j → j < 65 → (exG now n i M).W j = []
  | 0, _, M, h, _ => h
  | n + 1, i, M, h, hi => by
    rw [exG]
    refine exG_W5 now n (i + 1) _ ?_ (by omega)
    by_cases h5 : i < 5
    · exact frs_W5 h5 now _ M h
    · have : M.W i = [] := h i (by omega) (by omega)
      rw [this]
      exact h
theorem HJ.expire (h : HJ n M D now []) (now' : Int) (hl : now ≤ now') : HJ n (M.ex now') D now' (M.E.filter fun l => decide (l.til ≤ now')) := by
  obtain ⟨q, hq⟩ : ∃ q, q = 64 := ⟨_, rfl⟩
  refine (h.later hl).out (fun l => decide (l.til ≤ now')) ?_ ?_ (fun x => ex_ct h.one now' x) ?_
  · unfold MM.ex MM.l; dsimp only
  · unfold MM.ex MM.l
    rw [← hq]
    dsimp only
    exact (exG_E now' q 1 M).2
  · unfold MM.ex MM.l
    rw [← hq]
    dsimp only
    exact exG_W5 now' q 1 M h.qs (by omega)
/-- With room all that waits for a worker is turned. -/
theorem frs_all {own : Nat} (h1 : 1 ≤ own) (h2 : own < 65) (now : Int) : ∀ (l : List K3) (M : MM), M.one → l = keysT (M.W own) → (M.W 0).length + l.length < 128 → (frs now own l M).W own = []
  | [], M, _, hl, _ => by
    have : (M.W own).length = 0 := by have := congrArg List.length hl; simp [keysT] at this; exact this.symm ▸ rfl
    exact List.eq_nil_of_length_eq_zero this
  | k :: l, M, ho, hl, hr => by
    rw [frs]
    have hnd := one_nodup ho h2
    rw [← hl] at hnd
    have hn2 := List.nodup_cons.1 hnd
    have hk0 : k ∉ keysT (M.W 0) := fun hm => by
      have a := wtK_count M.W 0 [] k 65
      have b := List.count_pos_iff.2 hm
      have hm2 : k ∈ keysT (M.W own) := by rw [← hl]; simp
      have c := List.count_pos_iff.2 hm2
      have d := wtK_le (W := updQ M.W 0 []) (j := own) (x := k) 65 h2
      rw [updQ_ne _ _ (by omega)] at d
      rw [if_pos (by decide), if_pos (by decide)] at a
      have e := ho k
      have f : M.ct k = (wtK M.W 65).count k := by unfold MM.ct MM.wt; rfl
      have g : (keysT ([] : List Tk)).count k = 0 := rfl
      omega
    have ha : addR (M.W 0) k = 0 := by
      unfold addR
      rw [if_neg (by simpa using hk0), if_neg (by simp at hr; omega)]
    have hW0 : ((M.fr k own now).W 0).length = (M.W 0).length + 1 := by
      unfold MM.fr
      rw [if_pos ha]
      show (updQ (updQ M.W 0 (addW (M.W 0) k now)) own _ 0).length = _
      rw [updQ_ne _ _ (by omega), updQ_self]
      unfold addW
      rw [if_pos ha]
      simp
    have hWo : keysT ((M.fr k own now).W own) = l := by
      unfold MM.fr
      rw [if_pos ha]
      show keysT (updQ (updQ M.W 0 (addW (M.W 0) k now)) own (remW (updQ M.W 0 (addW (M.W 0) k now) own) k) own) = l
      rw [updQ_self, updQ_ne _ _ (by omega)]
      cases hw : M.W own with
      | nil => rw [hw] at hl; cases hl
      | cons a W' =>
        rw [hw] at hl
        obtain ⟨e1, e2⟩ := List.cons.inj hl
        have : remW (a :: W') k = W' := by
          unfold remW
          rw [List.filter_cons, if_neg (by simp [e1])]
          rw [List.filter_eq_self]
          intro y hy
          have : y.1 ≠ k := fun e => hn2.1 (by rw [e2, ← e]; exact List.mem_map.2 ⟨y, hy, rfl⟩)
          simp [this]
        rw [this]
        exact e2.symm
    have hone : (M.fr k own now).one := fun y => by
      have hm2 : k ∈ keysT (M.W own) := by rw [← hl]; simp
      have c1 := fr_ct h1 h2 now (one_W ho h2 hm2) y
      have c2 : (M.fr k own now).ce y = M.ce y := ce_of (MM.fr_E k own now).1 y
      have := ho y
      omega
    exact frs_all h1 h2 now l _ hone hWo.symm (by rw [hW0]; simp at hr; omega)
theorem HJ.lose (h : HJ n M D now []) (hn : n < 60) {w : Nat} (h1 : 1 ≤ w) (h2 : w < 5) : HJ n (M.lo (w : Int) now) D now (M.loL (w : Int)) := by
  have hi : isW (w : Int) = true := by simp only [isW, Bool.and_eq_true, decide_eq_true_eq]; omega
  have el : M.loL (w : Int) = M.E.filter fun l => decide (l.wk = (w : Int)) := by unfold MM.loL; rw [if_pos hi]
  have em : M.lo (w : Int) now = ((frs now w (keysT (M.W w)) M).q w []).l (M.E.filter fun l => !decide (l.wk = (w : Int))) := by unfold MM.lo; rw [if_pos hi, Int.toNat_natCast]
  rw [el, em]
  have ha := frs_all h1 (by omega) now (keysT (M.W w)) M h.one rfl (by
    have a := h.len (j := 0) (by decide)
    have b := h.len (j := w) (by omega)
    have c : (keysT (M.W w)).length = (M.W w).length := by simp [keysT]
    omega)
  have hq : (frs now w (keysT (M.W w)) M).q w [] = frs now w (keysT (M.W w)) M := MM.q_id _ ha.symm
  rw [hq]
  refine h.out (fun l => decide (l.wk = (w : Int))) ?_ ?_ (fun x => ?_) ?_
  · unfold MM.l; dsimp only
  · unfold MM.l
    dsimp only
    exact (frs_E now w _ M).2
  · have := frs_ct h1 (by omega) now (keysT (M.W w)) M (one_nodup h.one (by omega)) (fun k hk => one_W h.one (by omega) hk) x
    rw [← this]
    exact ct_of (by unfold MM.l; dsimp only) x
  · intro j hj hj2
    show (frs now w (keysT (M.W w)) M).W j = []
    exact frs_W5 h2 now _ M h.qs j hj hj2
end Go.Proofs.Ytkmhbbcppjckiaa.Ma
