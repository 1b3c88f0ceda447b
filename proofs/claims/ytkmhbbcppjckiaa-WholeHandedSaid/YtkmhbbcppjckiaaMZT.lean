/- As many tasks as may be are had at a time: the theory of MatchingMany. -/
import Derived.Test.YtkmhbbcppjckiaaK0P
namespace Go.Proofs.Ytkmhbbcppjckiaa.Ma
open Go Go.RowKit Go.Proofs.Ytkmhbbcppjckiaa
open Go.Proofs.Ytkmhbbcppjckiaa.Hp (i64wf K3 wf3)
open Go.Proofs.Ytkmhbbcppjckiaa.Qu
set_option linter.unusedVariables false
set_option linter.unusedSimpArgs false
set_option maxRecDepth 100000
theorem whW_false {W : Nat → List Tk} {k : K3} : ∀ (n i : Nat), (∀ j, k ∉ keysT (W j)) → (whW W k n i).2 = false
  | 0, _, _ => rfl
  | n + 1, i, h => by
    rw [whW, if_neg (by simpa using h i)]
    exact whW_false n (i + 1) h
theorem whW_true {W : Nat → List Tk} {k : K3} {j : Nat} : ∀ (n i : Nat), i ≤ j → j < n + i → k ∈ keysT (W j) → (whW W k n i).2 = true
  | 0, _, h1, h2, _ => by omega
  | n + 1, i, h1, h2, h => by
    rw [whW]
    split
    · rfl
    · rename_i hn
      by_cases e : i = j
      · subst e; exact absurd (by simpa using h) hn
      · exact whW_true n (i + 1) (by omega) (by omega) h
theorem MM.kn_false {M : MM} {k : K3} (h1 : ∀ j, k ∉ keysT (M.W j)) (h2 : ∀ l ∈ M.E, l.key ≠ k) : M.kn k = false := by
  unfold MM.kn MM.wh
  rw [whW_false 65 0 h1, Bool.false_or]
  simpa using h2
/-- A task that is new is added. -/
theorem MM.ad_new {M : MM} {k : K3} {j : Nat} (hk : M.kn k = false) (hj : j < 65) (hn : k ∉ keysT (M.W j)) (hl : (M.W j).length < 128) : M.adE k (j : Int) = 0 ∧ ∀ now, M.ad k (j : Int) now = M.q j (M.W j ++ [(k, now)]) := by
  have hw : ¬ ((j : Int) ≠ 0 ∧ isW (j : Int) = false) := by
    rintro ⟨h1, h2⟩
    have : isW (j : Int) = true := by simp only [isW, Bool.and_eq_true, decide_eq_true_eq]; omega
    rw [this] at h2; cases h2
  have ha : addR (M.W j) k = 0 := by
    unfold addR
    rw [if_neg (by simpa using hn), if_neg (by omega)]
  have e1 : M.adE k (j : Int) = 0 := by
    unfold MM.adE
    rw [if_neg (by rw [hk]; decide), if_neg hw, Int.toNat_natCast, ha]
  refine ⟨e1, fun now => ?_⟩
  unfold MM.ad
  rw [if_pos e1, Int.toNat_natCast]
  unfold addW
  rw [if_pos ha]
def kz (i : Nat) : K3 := ((i : Int), 2, 0)
def jz (i : Nat) : Nat := 1 + i % 3
def lz (i : Nat) : Ls := ⟨(i : Int) + 1, kz i, (jz i : Int), 20⟩
def lzs (n : Nat) : List Ls := (List.range n).map lz
def wz : Nat → Nat → List Tk
  | 0 => fun _ => []
  | m + 1 => updQ (wz m) (jz (256 + m)) (wz m (jz (256 + m)) ++ [(kz (256 + m), 0)])
def Mz (i : Nat) : MM := ⟨((min i 256 : Nat) : Int), wz (i - 256), lzs (min i 256)⟩
theorem lzs_len (n : Nat) : (lzs n).length = n := by simp [lzs]
theorem lzs_succ (n : Nat) : lzs (n + 1) = lzs n ++ [lz n] := by simp [lzs, List.range_succ]
theorem kz_inj {i j : Nat} (h : kz i = kz j) : i = j := by
  have := congrArg Prod.fst h
  simp only [kz] at this
  omega
theorem wz_mem {k : K3} : ∀ {m j : Nat}, k ∈ keysT (wz m j) → ∃ i, 256 ≤ i ∧ i < 256 + m ∧ k = kz i
  | 0, j, h => by simp [wz, keysT] at h
  | m + 1, j, h => by
    rw [wz] at h
    by_cases e : j = jz (256 + m)
    · subst e
      rw [updQ_self] at h
      simp only [keysT, List.map_append, List.mem_append, List.map_cons, List.map_nil, List.mem_singleton] at h
      rcases h with h | h
      · obtain ⟨i, h1, h2, h3⟩ := wz_mem (m := m) (j := jz (256 + m)) (k := k) h
        exact ⟨i, h1, by omega, h3⟩
      · exact ⟨256 + m, by omega, by omega, h⟩
    · rw [updQ_ne _ _ e] at h
      obtain ⟨i, h1, h2, h3⟩ := wz_mem h
      exact ⟨i, h1, by omega, h3⟩
theorem wz_len : ∀ m j : Nat, (wz m j).length ≤ m
  | 0, j => by simp [wz]
  | m + 1, j => by
    rw [wz]
    by_cases e : j = jz (256 + m)
    · subst e
      rw [updQ_self, List.length_append]
      have := wz_len m (jz (256 + m))
      simpa using this
    · rw [updQ_ne _ _ e]
      have := wz_len m j
      omega
theorem lzs_mem {n : Nat} {l : Ls} (h : l ∈ lzs n) : ∃ i, i < n ∧ l = lz i := by
  simp only [lzs, List.mem_map, List.mem_range] at h
  obtain ⟨i, h1, rfl⟩ := h
  exact ⟨i, h1, rfl⟩
theorem mz_kn (i : Nat) : (Mz i).kn (kz i) = false := by
  refine MM.kn_false (fun j hm => ?_) fun l hl e => ?_
  · obtain ⟨q, h1, h2, h3⟩ := wz_mem hm
    have := kz_inj h3
    omega
  · obtain ⟨q, h1, rfl⟩ := lzs_mem hl
    have := kz_inj (show kz q = kz i from e)
    omega
theorem jz_lt (i : Nat) : 1 ≤ jz i ∧ jz i < 65 := by unfold jz; omega
theorem mz_add (i : Nat) (hi : i < 300) : (Mz i).adE (kz i) (jz i : Int) = 0 ∧ (Mz i).ad (kz i) (jz i : Int) 0 = (Mz i).q (jz i) ((Mz i).W (jz i) ++ [(kz i, 0)]) := by
  have h := MM.ad_new (M := Mz i) (mz_kn i) (jz_lt i).2 (fun hm => by
    obtain ⟨q, h1, h2, h3⟩ := wz_mem hm
    have := kz_inj h3
    omega) (by have := wz_len (i - 256) (jz i); show (wz (i - 256) (jz i)).length < 128; omega)
  exact ⟨h.1, h.2 0⟩
def Mz' (i : Nat) : MM := (Mz i).q (jz i) ((Mz i).W (jz i) ++ [(kz i, 0)])
theorem isW_jz (i : Nat) : isW (jz i : Int) = true := by
  have := jz_lt i
  simp only [isW, Bool.and_eq_true, decide_eq_true_eq]
  omega
theorem mz_poll (i : Nat) (hi : i < 300) : (Mz' i).plE (jz i : Int) 2 = (if i < 256 then 0 else 3) ∧ (Mz' i).pl (jz i : Int) 2 0 = Mz (i + 1) := by
  by_cases h : i < 256
  · have hm : Mz i = ⟨(i : Int), fun _ => [], lzs i⟩ := by
      unfold Mz
      rw [show min i 256 = i by omega, show i - 256 = 0 by omega]
      rfl
    have hm2 : Mz (i + 1) = ⟨(i : Int) + 1, fun _ => [], lzs i ++ [lz i]⟩ := by
      unfold Mz
      rw [show min (i + 1) 256 = i + 1 by omega, show i + 1 - 256 = 0 by omega, lzs_succ]
      simp [wz]
    have hfi : fiK 2 (keysT ((Mz' i).W (jz i))) = (kz i, true) := by
      unfold Mz' MM.q
      dsimp only
      rw [updQ_self, hm]
      simp [keysT, fiK, kz]
    have ht2 : (Mz' i).t2 (jz i) 2 = (kz i, true) := by unfold MM.t2; rw [hfi]; rfl
    have hE : (Mz' i).E.length = i := by unfold Mz' MM.q; rw [hm]; exact lzs_len i
    have e1 : (Mz' i).plE (jz i : Int) 2 = 0 := by
      unfold MM.plE
      rw [if_neg (by rw [isW_jz]; decide), if_neg (by rw [hE]; omega), Int.toNat_natCast, ht2]
      rfl
    refine ⟨by rw [e1, if_pos h], ?_⟩
    have e2 : (Mz' i).plL (jz i : Int) 2 0 = lz i := by
      unfold MM.plL
      rw [if_pos e1, Int.toNat_natCast, ht2]
      unfold Mz' MM.q lz
      rw [hm]
      rfl
    have e3 : ((Mz' i).t2M (jz i) 2).W = fun _ => [] := by
      unfold MM.t2M MM.tk
      rw [hfi]
      unfold Mz' MM.q
      rw [hm]
      dsimp only
      rw [if_pos rfl]
      dsimp only
      rw [updQ_self]
      funext j
      by_cases e : j = jz i
      · subst e
        rw [updQ_self]
        simp [remW]
      · rw [updQ_ne _ _ e, updQ_ne _ _ e]
    unfold MM.pl
    rw [if_pos e1, e2, Int.toNat_natCast, e3, hm2]
    unfold Mz' MM.q
    rw [hm]
  · have hm : Mz i = ⟨256, wz (i - 256), lzs 256⟩ := by
      unfold Mz
      rw [show min i 256 = 256 by omega]
      rfl
    have hE : (Mz' i).E.length = 256 := by unfold Mz' MM.q; rw [hm]; exact lzs_len 256
    have e1 : (Mz' i).plE (jz i : Int) 2 = 3 := by
      unfold MM.plE
      rw [if_neg (by rw [isW_jz]; decide), if_pos hE]
    refine ⟨by rw [e1, if_neg h], ?_⟩
    unfold MM.pl
    rw [if_neg (by rw [e1]; decide)]
    unfold Mz' Mz MM.q
    rw [show min i 256 = 256 by omega, show min (i + 1) 256 = 256 by omega, show i + 1 - 256 = (i - 256) + 1 by omega]
    dsimp only
    rw [wz, show 256 + (i - 256) = i by omega]
theorem wtK_upd {W : Nat → List Tk} {j : Nat} {x : Tk} : ∀ n, (wtK (updQ W j (W j ++ [x])) n).length = (wtK W n).length + (if j < n then 1 else 0)
  | 0 => by simp [wtK]
  | n + 1 => by
    have ih := wtK_upd (W := W) (j := j) (x := x) n
    rw [wtK, wtK, List.length_append, List.length_append, ih]
    by_cases e : n = j
    · subst e
      rw [updQ_self]
      simp [keysT]
      omega
    · rw [updQ_ne _ _ e]
      by_cases h : j < n
      · rw [if_pos h, if_pos (by omega)]; omega
      · rw [if_neg h, if_neg (by omega)]
        rfl
theorem wtK_nil : ∀ n, (wtK (fun _ => []) n).length = 0
  | 0 => rfl
  | n + 1 => by rw [wtK, List.length_append, wtK_nil n]; rfl
theorem wz_wt : ∀ m, (wtK (wz m) 65).length = m
  | 0 => wtK_nil 65
  | m + 1 => by rw [wz, wtK_upd, wz_wt m, if_pos (jz_lt _).2]
/-- Behind so many that are done. -/
def Md (n i : Nat) : MM := ⟨((min n 256 : Nat) : Int), wz (n - 256), (lzs (min n 256)).drop i⟩
theorem lzs_drop {n i : Nat} (h : i < n) : (lzs n).drop i = lz i :: (lzs n).drop (i + 1) := by
  have hl : i < (lzs n).length := by rw [lzs_len]; exact h
  rw [List.drop_eq_getElem_cons hl]
  simp [lzs]
theorem drop_tok {n i : Nat} {l : Ls} (h : l ∈ (lzs n).drop i) : (i : Int) + 1 ≤ l.tok := by
  obtain ⟨q, hq, e⟩ := List.getElem_of_mem h
  rw [List.getElem_drop] at e
  rw [← e]
  simp [lzs, lz]
  omega
theorem md_done (n i : Nat) : ((Md n i).E.any fun l => decide (l.tok = ((i : Int) + 1))) = decide (i < min n 256) ∧ (Md n i).dn ((i : Int) + 1) = Md n (i + 1) := by
  have hf : ((lzs (min n 256)).drop (i + 1)).filter (fun l => !decide (l.tok = ((i : Int) + 1))) = (lzs (min n 256)).drop (i + 1) := by
    rw [List.filter_eq_self]
    intro l hl
    have := drop_tok hl
    have : l.tok ≠ (i : Int) + 1 := by omega
    simp [this]
  by_cases h : i < min n 256
  · have hd := lzs_drop h
    refine ⟨?_, ?_⟩
    · rw [decide_eq_true h]
      unfold Md
      dsimp only
      rw [hd]
      simp [lz]
    · unfold MM.dn MM.l Md
      dsimp only
      rw [hd, List.filter_cons, if_neg (by simp [lz]), hf]
  · have hd : (lzs (min n 256)).drop i = [] := List.drop_eq_nil_of_le (by rw [lzs_len]; omega)
    have hd2 : (lzs (min n 256)).drop (i + 1) = [] := List.drop_eq_nil_of_le (by rw [lzs_len]; omega)
    refine ⟨?_, ?_⟩
    · rw [decide_eq_false h]
      unfold Md
      dsimp only
      rw [hd]
      rfl
    · unfold MM.dn MM.l Md
      dsimp only
      rw [hd, hd2]
      rfl
theorem md_zero (n : Nat) : Md n 0 = Mz n := rfl
theorem md_len (n i : Nat) : (Md n i).E.length = min n 256 - i := by unfold Md; simp [lzs_len]
theorem md_wt (n i : Nat) : (Md n i).wt.length = n - 256 := wz_wt _
end Go.Proofs.Ytkmhbbcppjckiaa.Ma
