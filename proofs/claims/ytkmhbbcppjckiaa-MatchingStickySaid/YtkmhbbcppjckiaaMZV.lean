/- Several Matches side by side; the theory of MatchingSticky. -/
import Derived.Test.YtkmhbbcppjckiaaMZT
namespace Go.Proofs.Ytkmhbbcppjckiaa.Ma
open Go Go.RowKit Go.Proofs.Ytkmhbbcppjckiaa
open Go.Proofs.Ytkmhbbcppjckiaa.Hp (i64wf K3 wf3)
open Go.Proofs.Ytkmhbbcppjckiaa.Qu
open Go.Proofs.Ytkmhbbcppjckiaa.Dk (Frm below_drewN)
set_option linter.unusedVariables false
set_option linter.unusedSimpArgs false
set_option maxRecDepth 100000
variable {w w' wx : World} {X : Nat → Prop} {B : Nat} {bs : Nat → Nat} {Ms : Nat → MM}
/-- Matches (their rows at bs), and somebody's boxes. -/
def MS3 (w : World) (B : Nat) (X : Nat → Prop) (bs : Nat → Nat) (n : Nat) (Ms : Nat → MM) (wx : World) : Prop :=
  ∃ Ts : Nat → Nat → Prop, (∀ i, i < n → MT wx (Ts i) (bs i) 0 #[] 70 (Ms i)) ∧ (∀ i j, i < n → j < n → i ≠ j → ∀ q, Ts i q → ¬ Ts j q) ∧ (∀ i, i < n → ∀ q, Ts i q → B ≤ q ∧ q < wx.heap.size ∧ ¬ X q) ∧ Below B w wx ∧ (∀ q, X q → q < wx.heap.size) ∧ B ≤ w.heap.size
theorem MS3.none (hb : Below B w wx) (hB : B ≤ w.heap.size) (hX : ∀ q, X q → q < wx.heap.size) : MS3 w B X bs 0 Ms wx :=
  ⟨fun _ _ => False, (fun i h => by omega), (fun i j h => by omega), (fun i h => by omega), hb, hX, hB⟩
/-- One more, which is made just now. -/
theorem MS3.new {n : Nat} (h : MS3 w B X bs n Ms wx) (hn : bs n = wx.heap.size) (hm : Ms n = M0) : MS3 w B X bs (n + 1) Ms (wx.alloc (.cells Try.zeroCells70 70)) := by
  obtain ⟨Ts, h1, h2, h3, h4, h5, h6⟩ := h
  have b1 : Below wx.heap.size wx (wx.alloc (.cells Try.zeroCells70 70)) := (Below.refl _ _).alloc (Nat.le_refl _) _
  have hs := h4.size
  refine ⟨updQ Ts n (fun q => q = wx.heap.size), fun i hi => ?_, fun i j hi hj hij q hq1 hq2 => ?_, fun i hi q hq => ?_, h4.trans (b1.mono (Nat.le_trans h6 hs)), fun q hq => Nat.lt_of_lt_of_le (h5 q hq) b1.size, h6⟩
  · by_cases e : i = n
    · subst e
      rw [updQ_self, hn, hm]
      exact MT.new wx
    · rw [updQ_ne _ _ e]
      exact (h1 i (by omega)).below b1
  · by_cases ei : i = n
    · subst ei
      rw [updQ_self] at hq1
      rw [updQ_ne _ _ (Ne.symm hij)] at hq2
      have := (h3 j (by omega) q hq2).2.1
      omega
    · rw [updQ_ne _ _ ei] at hq1
      by_cases ej : j = n
      · subst ej
        rw [updQ_self] at hq2
        have := (h3 i (by omega) q hq1).2.1
        omega
      · rw [updQ_ne _ _ ej] at hq2
        exact h2 i j (by omega) (by omega) hij q hq1 hq2
  · by_cases ei : i = n
    · subst ei
      rw [updQ_self] at hq
      subst hq
      exact ⟨by omega, lt_of_rowK (heap_alloc_new wx _), fun hx => by have := h5 _ hx; omega⟩
    · rw [updQ_ne _ _ ei] at hq
      obtain ⟨a1, a2, a3⟩ := h3 i (by omega) q hq
      exact ⟨a1, Nat.lt_of_lt_of_le a2 b1.size, a3⟩
theorem MS3.below {n : Nat} (h : MS3 w B X bs n Ms wx) (hb : Below wx.heap.size wx w') : MS3 w B X bs n Ms w' := by
  obtain ⟨Ts, h1, h2, h3, h4, h5, h6⟩ := h
  exact ⟨Ts, fun i hi => (h1 i hi).below hb, h2, fun i hi q hq => ⟨(h3 i hi q hq).1, Nat.lt_of_lt_of_le (h3 i hi q hq).2.1 hb.size, (h3 i hi q hq).2.2⟩, h4.trans (hb.mono (Nat.le_trans h6 h4.size)), fun q hq => Nat.lt_of_lt_of_le (h5 q hq) hb.size, h6⟩
theorem MS3.step {n : Nat} (h : MS3 w B X bs n Ms wx) {i : Nat} (hi : i < n) : ∃ T', MT wx T' (bs i) 0 #[] 70 (Ms i) ∧ ∀ M' w', MPost wx T' (bs i) 0 #[] 70 M' w' → MS3 w B X bs n (updQ Ms i M') w' ∧ KX X wx w' := by
  obtain ⟨Ts, h1, h2, h3, h4, h5, h6⟩ := h
  refine ⟨Ts i, h1 i hi, fun M' w' hP => ?_⟩
  obtain ⟨hF, T', hM, hT⟩ := hP
  refine ⟨⟨updQ Ts i T', fun j hj => ?_, fun j k hj hk hjk q hq1 hq2 => ?_, fun j hj q hq => ?_, ?_, fun q hq => Nat.lt_of_lt_of_le (h5 q hq) hF.size, h6⟩, ⟨fun q hq => hF.block q (h5 q hq) fun e => (h3 i hi q e).2.2 hq, hF.size⟩⟩
  · by_cases e : j = i
    · subst e
      rw [updQ_self, updQ_self]
      exact hM
    · rw [updQ_ne _ _ e, updQ_ne _ _ e]
      exact (h1 j hj).keep fun q hq hlt => hF.block q hlt fun e2 => h2 j i hj hi e q hq e2
  · by_cases ej : j = i
    · subst ej
      rw [updQ_self] at hq1
      rw [updQ_ne _ _ (Ne.symm hjk)] at hq2
      rcases (hT q hq1).1 with h | h
      · exact h2 j k hj hk hjk q h hq2
      · have := (h3 k hk q hq2).2.1; omega
    · rw [updQ_ne _ _ ej] at hq1
      by_cases ek : k = i
      · subst ek
        rw [updQ_self] at hq2
        rcases (hT q hq2).1 with h | h
        · exact h2 j k hj hk hjk q hq1 h
        · have := (h3 j hj q hq1).2.1; omega
      · rw [updQ_ne _ _ ek] at hq2
        exact h2 j k hj hk hjk q hq1 hq2
  · by_cases ej : j = i
    · subst ej
      rw [updQ_self] at hq
      obtain ⟨a1, a2⟩ := hT q hq
      rcases a1 with h | h
      · exact ⟨(h3 j hj q h).1, a2, (h3 j hj q h).2.2⟩
      · have h7 := h4.size
        exact ⟨by omega, a2, fun hx => by have := h5 q hx; omega⟩
    · rw [updQ_ne _ _ ej] at hq
      obtain ⟨a1, a2, a3⟩ := h3 j hj q hq
      exact ⟨a1, Nat.lt_of_lt_of_le a2 hF.size, a3⟩
  · exact h4.trans (hF.below (fun q _ hq => (h3 i hi q hq).1) (Nat.le_trans h6 h4.size))
theorem MS3.low {n : Nat} (h : MS3 w B X bs n Ms wx) : Below B w wx := by
  obtain ⟨Ts, h1, h2, h3, h4, h5, h6⟩ := h
  exact h4
section
variable {n : Nat}
theorem ms_add (h : MS3 w B X bs n Ms wx) {i : Nat} (hi : i < n) (k : K3) (hk : wf3 k) (wk now : Int) (hn : i64wf now) (hE : (Ms i).E.length ≤ 1000) : Calls Try.prog 25 #[.pointer (some ⟨bs i, 0, none⟩), .agg (kcs k).toArray, .int .i64 wk, .int .i64 now] wx fun e w' => e = .returned (.int .i64 ((Ms i).adE k wk)) ∧ MS3 w B X bs n (updQ Ms i ((Ms i).ad k wk now)) w' ∧ KX X wx w' := by
  obtain ⟨T', hM, hS⟩ := h.step hi
  exact (mt_add hM k hk wk now hn hE).mono fun e w' hh => ⟨hh.1, hS _ _ hh.2⟩
theorem ms_poll (h : MS3 w B X bs n Ms wx) {i : Nat} (hi : i < n) (wk kind now : Int) (hE : (Ms i).E.length ≤ 256) (hg0 : 0 ≤ (Ms i).giv) (hg1 : (Ms i).giv < 9223372036854775807) (hn0 : -9223372036854775808 ≤ now) (hn1 : now + 20 < 9223372036854775808) : Calls Try.prog 27 #[.pointer (some ⟨bs i, 0, none⟩), .int .i64 wk, .int .i64 kind, .int .i64 now] wx fun e w' => e = .returned (.tuple #[.agg ((Ms i).plL wk kind now).cs.toArray, .int .i64 ((Ms i).plE wk kind)]) ∧ MS3 w B X bs n (updQ Ms i ((Ms i).pl wk kind now)) w' ∧ KX X wx w' := by
  obtain ⟨T', hM, hS⟩ := h.step hi
  exact (mt_poll hM wk kind now hE hg0 hg1 hn0 hn1).mono fun e w' hh => ⟨hh.1, hS _ _ hh.2⟩
theorem ms_expire (h : MS3 w B X bs n Ms wx) {i : Nat} (hi : i < n) (now : Int) (hnow : i64wf now) (hE : (Ms i).E.length ≤ 1000) : Calls Try.prog 31 #[.pointer (some ⟨bs i, 0, none⟩), .int .i64 now] wx fun e w' => ∃ v, e = .returned v ∧ MS3 w B X bs n (updQ Ms i ((Ms i).ex now)) w' ∧ KX X wx w' := by
  obtain ⟨T', hM, hS⟩ := h.step hi
  exact (mt_expire hM now hnow hE).mono fun e w' ⟨a1, c1, h1, h2, h3⟩ => ⟨_, h1, hS _ _ h3.post⟩
theorem ms_lose (h : MS3 w B X bs n Ms wx) {i : Nat} (hi : i < n) (wk now : Int) (hnow : i64wf now) (hE : (Ms i).E.length ≤ 1000) : Calls Try.prog 35 #[.pointer (some ⟨bs i, 0, none⟩), .int .i64 wk, .int .i64 now] wx fun e w' => ∃ v, e = .returned v ∧ MS3 w B X bs n (updQ Ms i ((Ms i).lo wk now)) w' ∧ KX X wx w' := by
  obtain ⟨T', hM, hS⟩ := h.step hi
  exact (mt_lose hM wk now hnow hE).mono fun e w' ⟨a1, c1, h1, h2, h3⟩ => ⟨_, h1, hS _ _ h3.post⟩
end
/-- One task, waiting. -/
def tS : K3 := (3, 1, 0)
def SW (j : Nat) (s : Int) : Nat → List Tk := fun k => if k = j then [(tS, s)] else []
def MS (j : Nat) (s : Int) : MM := ⟨0, SW j s, []⟩
theorem SW_self (j : Nat) (s : Int) : SW j s j = [(tS, s)] := if_pos rfl
theorem SW_ne {j k : Nat} (s : Int) (h : k ≠ j) : SW j s k = [] := if_neg h
theorem wf_tS : wf3 tS := ⟨rfl, rfl, rfl⟩
theorem ms_ad {own : Nat} (h1 : 1 ≤ own) (h2 : own < 65) : M0.adE tS (own : Int) = 0 ∧ M0.ad tS (own : Int) 0 = MS own 0 := by
  have h := MM.ad_new (M := M0) (k := tS) (j := own) (MM.kn_false (fun j hm => by cases hm) (fun l hl => by cases hl)) h2 (fun hm => by cases hm) (show ([] : List Tk).length < 128 by decide)
  exact ⟨h.1, h.2 0⟩
theorem exG_skip {now : Int} : ∀ (n i : Nat) (M : MM), (∀ j, i ≤ j → j < i + n → M.W j = []) → exG now n i M = M
  | 0, _, _, _ => rfl
  | n + 1, i, M, h => by
    rw [exG, h i (Nat.le_refl _) (by omega)]
    exact exG_skip n (i + 1) M fun j h1 h2 => h j (by omega) (by omega)
theorem exG_split {now : Int} : ∀ (n1 n2 i : Nat) (M : MM), exG now (n1 + n2) i M = exG now n2 (i + n1) (exG now n1 i M)
  | 0, n2, i, M => by rw [Nat.zero_add]; rfl
  | n1 + 1, n2, i, M => by
    rw [show n1 + 1 + n2 = (n1 + n2) + 1 by omega, exG, exG, exG_split n1 n2 (i + 1)]
    rw [show i + 1 + n1 = i + (n1 + 1) by omega]
theorem ms_fr {own : Nat} (h1 : 1 ≤ own) (s now : Int) : (MS own s).fr tS own now = MS 0 now := by
  have e0 : (MS own s).W 0 = [] := SW_ne s (by omega)
  unfold MM.fr
  rw [e0, if_pos (show addR [] tS = 0 from rfl)]
  unfold MM.q MS
  dsimp only
  congr 1
  funext k
  have eo : updQ (SW own s) 0 (addW [] tS now) own = [(tS, s)] := by rw [updQ_ne _ _ (by omega), SW_self]
  rw [eo]
  by_cases ek : k = own
  · subst ek
    rw [updQ_self, SW_ne now (by omega)]
    simp [remW]
  · rw [updQ_ne _ _ ek]
    by_cases e0 : k = 0
    · subst e0
      rw [updQ_self, SW_self]
      rfl
    · rw [updQ_ne _ _ e0, SW_ne s ek, SW_ne now e0]
theorem ms_ex {own : Nat} (h1 : 1 ≤ own) (h2 : own < 65) (t : Int) (ht : 0 ≤ t) : (MS own 0).ex t = if 5 ≤ t then MS 0 t else MS own 0 := by
  have hx : exG t 64 1 (MS own 0) = if 5 ≤ t then MS 0 t else MS own 0 := by
    rw [show 64 = (own - 1) + (65 - own) by omega, exG_split, exG_skip (own - 1) 1 _ fun j a b => SW_ne 0 (by omega)]
    rw [show 1 + (own - 1) = own by omega, show 65 - own = (64 - own) + 1 by omega, exG]
    have e1 : (MS own 0).W own = [(tS, 0)] := SW_self own 0
    rw [e1]
    by_cases h5 : 5 ≤ t
    · have e2 : lateW t [(tS, 0)] = [(tS, 0)] := by simp [lateW, late, h5]; omega
      rw [e2, if_pos h5]
      show exG t (64 - own) (own + 1) (frs t own [tS] (MS own 0)) = _
      rw [frs, frs, ms_fr h1]
      exact exG_skip _ _ _ fun j a b => SW_ne t (by omega)
    · have e2 : lateW t [(tS, 0)] = [] := by simp [lateW, late]; omega
      rw [e2, if_neg h5]
      show exG t (64 - own) (own + 1) (MS own 0) = _
      exact exG_skip _ _ _ fun j a b => SW_ne 0 (by omega)
  unfold MM.ex
  rw [hx]
  by_cases h5 : 5 ≤ t
  · rw [if_pos h5]; rfl
  · rw [if_neg h5]; rfl
theorem isW_nat {j : Nat} (h1 : 1 ≤ j) (h2 : j < 65) : isW (j : Int) = true := by
  simp only [isW, Bool.and_eq_true, decide_eq_true_eq]; omega
theorem ms_lo {own : Nat} (h1 : 1 ≤ own) (h2 : own < 65) : (MS own 0).lo (own : Int) 0 = MS 0 0 := by
  unfold MM.lo
  rw [if_pos (isW_nat h1 h2), Int.toNat_natCast]
  have e1 : (MS own 0).W own = [(tS, 0)] := SW_self own 0
  rw [e1]
  show ((frs 0 own [tS] (MS own 0)).q own []).l [] = _
  rw [frs, frs, ms_fr h1]
  unfold MM.q MM.l MS
  dsimp only
  congr 1
  have : ([] : List Tk) = SW 0 0 own := (SW_ne 0 (by omega)).symm
  rw [this, updQ_id]
theorem ms_t2 {j k : Nat} (s : Int) : (MS j s).t2 k 1 = if k = j ∨ j = 0 then (tS, true) else (k0, false) := by
  unfold MM.t2
  show (if (fiK 1 (keysT (SW j s k))).2 = true then fiK 1 (keysT (SW j s k)) else fiK 1 (keysT (SW j s 0))) = _
  have f1 : fiK 1 (keysT [(tS, s)]) = (tS, true) := rfl
  have f2 : fiK 1 (keysT []) = (k0, false) := rfl
  by_cases e : k = j
  · subst e
    rw [SW_self, f1]
    simp
  · rw [SW_ne s e, f2]
    by_cases e0 : j = 0
    · subst e0
      rw [SW_self, f1]
      simp
    · rw [SW_ne s (Ne.symm e0), f2]
      simp [e, e0]
theorem ms_pl {j k : Nat} (s : Int) (h1 : 1 ≤ k) (h2 : k < 65) : (MS j s).plE (k : Int) 1 = (if k = j ∨ j = 0 then 0 else 4) ∧ ∀ now, (k = j ∨ j = 0) → ((MS j s).plL (k : Int) 1 now).key = tS := by
  have e : (MS j s).plE (k : Int) 1 = (if k = j ∨ j = 0 then 0 else 4) := by
    unfold MM.plE
    rw [if_neg (by rw [isW_nat h1 h2]; decide), if_neg (show ¬ (MS j s).E.length = 256 from (by decide : ¬ ([] : List Ls).length = 256)), Int.toNat_natCast, ms_t2]
    by_cases h : k = j ∨ j = 0
    · rw [if_pos h, if_pos h]; rfl
    · rw [if_neg h, if_neg h]; rfl
  refine ⟨e, fun now h => ?_⟩
  unfold MM.plL
  rw [if_pos (by rw [e, if_pos h]), Int.toNat_natCast, ms_t2, if_pos h]
end Go.Proofs.Ytkmhbbcppjckiaa.Ma
