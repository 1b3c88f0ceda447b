/- Numbers and quoted texts: what is printed is read so, and what is read is printed so. -/
import Derived.Test.YtnfobnnbeefeeaaGreatDoorGA
import Derived.Test.YtnfobnnbeefeeaaGreatDoorGC
import Derived.Test.YtnfobnnbeefeeaaGreatDoorGB
import Derived.Lib.ParseIntBCases
import Derived.Test.YtnfobnnbeefeeaaGreatDoorG9
namespace Go.Proofs.YtnfobnnbeefeeaaGreatDoor.Wi
open Go Go.RowKit
set_option linter.unusedVariables false
set_option linter.unusedSimpArgs false
theorem dec_digs (u : Nat) : ∀ c ∈ Lib.decDigits u, isDg c = true := by
  induction u using Nat.strongRecOn with
  | _ u ih =>
    intro c hc
    rw [Lib.decDigits] at hc
    have dg : ∀ n, n < 10 → isDg (UInt8.ofNat (48 + n)) = true := fun n hn => by
      unfold isDg
      rw [UInt8.toNat_ofNat']
      simp
      omega
    by_cases h : u < 10
    · rw [dif_pos h] at hc
      rw [List.mem_singleton.1 hc]
      exact dg u h
    · rw [dif_neg h] at hc
      rcases List.mem_append.1 hc with hc | hc
      · exact ih (u / 10) (by omega) c hc
      · rw [List.mem_singleton.1 hc]
        exact dg _ (by omega)
theorem dec_ne (u : Nat) : Lib.decDigits u ≠ [] := by
  rw [Lib.decDigits]
  split <;> simp
theorem pum_app (M : Nat) : ∀ (a b : List UInt8) (acc n : Nat), Lib.parseUintM M acc a = .ok n → Lib.parseUintM M acc (a ++ b) = Lib.parseUintM M n b
  | [], b, acc, n, h => by
    rw [Lib.parseUintM] at h
    injection h with h
    rw [h]; rfl
  | c :: a, b, acc, n, h => by
    rw [Lib.parseUintM] at h
    rw [List.cons_append, Lib.parseUintM]
    split at h
    · rename_i h1
      rw [if_pos h1]
      split at h
      · cases h
      · rename_i h2
        rw [if_neg h2]
        split at h
        · cases h
        · rename_i h3
          rw [if_neg h3]
          exact pum_app M a b _ n h
    · cases h
theorem pum_one (M acc d : Nat) (hd : d < 10) (h1 : acc * 10 + d ≤ M) (hM : M ≤ 18446744073709551615) : Lib.parseUintM M acc [UInt8.ofNat (48 + d)] = .ok (acc * 10 + d) := by
  have e : (UInt8.ofNat (48 + d)).toNat = 48 + d := by rw [UInt8.toNat_ofNat']; omega
  rw [Lib.parseUintM, e, if_pos (by omega), if_neg (by omega), if_neg (by omega), Lib.parseUintM]
  congr 1
  omega
theorem pum_dec (M : Nat) (hM : M ≤ 18446744073709551615) (u : Nat) : u ≤ M → Lib.parseUintM M 0 (Lib.decDigits u) = .ok u := by
  induction u using Nat.strongRecOn with
  | _ u ih =>
    intro hu
    rw [Lib.decDigits]
    by_cases h : u < 10
    · rw [dif_pos h]
      have := pum_one M 0 u h (by omega) hM
      simpa using this
    · rw [dif_neg h, pum_app M _ _ 0 (u / 10) (ih (u / 10) (by omega) (by omega)), pum_one M _ _ (by omega) (by omega) hM]
      congr 1
      omega
theorem pub_dec {u : Nat} (hu : u ≤ 18446744073709551615) : Lib.parseUintB 64 (Lib.decDigits u) = .ok u := by
  unfold Lib.parseUintB
  rw [if_neg (dec_ne u)]
  exact pum_dec _ (by decide) u (by simpa using hu)
theorem dec_cons (u : Nat) : ∃ c r, Lib.decDigits u = c :: r ∧ isDg c = true := by
  cases h : Lib.decDigits u with
  | nil => exact absurd h (dec_ne u)
  | cons c r => exact ⟨c, r, rfl, dec_digs u c (by rw [h]; simp)⟩
theorem isDg_nat {c : UInt8} (h : isDg c = true) : 48 ≤ c.toNat ∧ c.toNat ≤ 57 := by simpa [isDg] using h
theorem pib_itoa {n : Int} (h0 : -9223372036854775808 ≤ n) (h1 : n ≤ 9223372036854775807) : Lib.parseIntB 64 (Lib.itoa n) = .ok n := by
  unfold Lib.itoa
  have e63 : (2 : Nat) ^ (64 - 1) = 9223372036854775808 := by decide
  by_cases hn : n < 0
  · rw [if_pos hn, Lib.parseIntB_minus, pub_dec (by omega), e63]
    simp only [Lib.signedC]
    rw [if_neg (by omega)]
    congr 1
    omega
  · rw [if_neg hn]
    obtain ⟨c, r, e, hc⟩ := dec_cons n.toNat
    have hb := isDg_nat hc
    have hp := pub_dec (u := n.toNat) (by omega)
    rw [e] at hp ⊢
    rw [Lib.parseIntB_plain 64 c r (by omega) (by omega), hp, e63]
    simp only [Lib.signlessC]
    rw [if_neg (by omega)]
    congr 1
    omega
/-- What comes next is no digit. -/
def Stop (rest : List UInt8) : Prop := ∀ c t, rest = c :: t → isDg c = false
theorem tw_app {a rest : List UInt8} (ha : ∀ c ∈ a, isDg c = true) (hr : Stop rest) : (a ++ rest).takeWhile isDg = a := by
  induction a with
  | nil =>
    cases rest with
    | nil => rfl
    | cons c t =>
      rw [List.nil_append, List.takeWhile_cons, hr c t rfl]
      rfl
  | cons c a ih =>
    rw [List.cons_append, List.takeWhile_cons, ha c (by simp)]
    rw [if_pos rfl, ih fun x hx => ha x (by simp [hx])]
theorem tkV_cons {p rest l : List UInt8} {k : Nat} (h : l.drop k = p ++ rest) : tkV p l k = true := by
  unfold tkV
  rw [h]
  simp [List.isPrefixOf_iff_prefix]
theorem tkV_head {c b : UInt8} {p t l : List UInt8} {k : Nat} (h : l.drop k = b :: t) (hc : c ≠ b) : tkV (c :: p) l k = false := by
  unfold tkV
  rw [h, List.isPrefixOf_cons_cons]
  simp [hc]
theorem tkV_bwd {p l : List UInt8} {k : Nat} (h : tkV p l k = true) : l.drop k = p ++ l.drop (k + p.length) := by
  unfold tkV at h
  rw [List.isPrefixOf_iff_prefix] at h
  obtain ⟨t, ht⟩ := h
  rw [← List.drop_drop, ← ht, List.drop_left' rfl]
theorem cut_app {l : List UInt8} {k k' : Nat} {a : List UInt8} (h : l.drop k = a ++ l.drop k') (hk : k' = k + a.length) : (l.take k').drop k = a := by
  rw [List.drop_take, h, hk, show k + a.length - k = a.length by omega, List.take_left' rfl]
theorem drop_cut {l : List UInt8} {k k' : Nat} (h : k ≤ k') : l.drop k = (l.take k').drop k ++ l.drop k' := by
  rw [List.drop_take]
  have e := List.take_append_drop (k' - k) (l.drop k)
  rw [List.drop_drop, show k + (k' - k) = k' by omega] at e
  exact e.symm
theorem drop_more {l a rest : List UInt8} {k : Nat} (h : l.drop k = a ++ rest) : l.drop (k + a.length) = rest := by
  rw [← List.drop_drop, h, List.drop_left' rfl]
theorem nu_fwd {l rest : List UInt8} {k : Nat} {n : Int} (h0 : -9223372036854775808 ≤ n) (h1 : n ≤ 9223372036854775807) (h : l.drop k = Lib.itoa n ++ rest) (hr : Stop rest) : nuV l k 0 = (n, k + (Lib.itoa n).length, 0) := by
  have key : dgE l (tkN [45] l k) = k + (Lib.itoa n).length := by
    unfold dgE tkN
    by_cases hn : n < 0
    · have e : Lib.itoa n = [45] ++ Lib.decDigits n.natAbs := by unfold Lib.itoa; rw [if_pos hn]; rfl
      rw [e] at h ⊢
      rw [List.append_assoc] at h
      rw [if_pos (tkV_cons h), drop_more h, tw_app (dec_digs _) hr, List.length_append]
      omega
    · have e : Lib.itoa n = Lib.decDigits n.toNat := by unfold Lib.itoa; rw [if_neg hn]
      rw [e] at h ⊢
      obtain ⟨c, r, e2, hc⟩ := dec_cons n.toNat
      have hb := isDg_nat hc
      have ht : tkV [45] l k = false := tkV_head (by rw [h, e2]; rfl) (fun e3 => by rw [← e3] at hb; exact absurd hb.1 (by decide))
      rw [ht, if_neg (by simp), h, tw_app (dec_digs _) hr]
  unfold nuV
  dsimp only
  rw [key, cut_app (a := Lib.itoa n) (by rw [drop_more h]; exact h) rfl]
  unfold nuQ
  rw [pib_itoa h0 h1]
  simp
theorem fe8 {e : Int} (h : fe e 8 = 0) : False := absurd (fe_ok h).2 (by omega)
theorem nu_bwd {l : List UInt8} {k k' : Nat} {n e : Int} (h : nuV l k e = (n, k', 0)) : e = 0 ∧ l.drop k = Lib.itoa n ++ l.drop k' ∧ (-9223372036854775808 ≤ n ∧ n ≤ 9223372036854775807) := by
  have hf := nuV_fits l k e
  rw [h] at hf
  have hge : k ≤ k' := by
    have := nu_ge l k
    have e2 : (nuV l k e).2.1 = dgE l (tkN [45] l k) := rfl
    rw [h] at e2
    have e3 : k' = dgE l (tkN [45] l k) := e2
    omega
  unfold nuV at h
  dsimp only at h
  injection h with h1 h2
  injection h2 with h2 h3
  rw [h2] at h1 h3
  unfold nuQ at h1 h3
  revert h1 h3
  cases hp : Lib.parseIntB 64 ((l.take k').drop k) with
  | ok v =>
    intro h1 h3
    dsimp only at h1 h3
    subst h1
    by_cases hi : Lib.itoa v = (l.take k').drop k
    · rw [if_pos hi] at h3
      exact ⟨h3, by rw [hi]; exact drop_cut hge, hf⟩
    · rw [if_neg hi] at h3
      exact (fe8 h3).elim
  | _ =>
    intro h1 h3
    exact (fe8 h3).elim
theorem nxV_cons {l t : List UInt8} {k : Nat} {b : UInt8} (h : l.drop k = b :: t) : nxV l k 0 = (b, k + 1, 0) ∧ l.drop (k + 1) = t := by
  obtain ⟨_, h2, h3⟩ := rb_cons h
  unfold nxV
  rw [if_neg (by omega)]
  rw [List.drop_eq_getElem_cons h3] at h
  injection h with h4 _
  refine ⟨?_, h2⟩
  rw [← h4]
  simp [List.getD, h3]
theorem hxi_all2 : ∀ i : Fin 16, hxi (hxd i.val) = (i.val : Int) := by decide +kernel
theorem hxi_hxd {i : Nat} (h : i < 16) : hxi (hxd i) = (i : Int) := hxi_all2 ⟨i, h⟩
theorem hxV_cons {l t : List UInt8} {k i : Nat} (hi : i < 16) (h : l.drop k = hxd i :: t) : hxV l k 0 = (UInt8.ofNat i, k + 1, 0) ∧ l.drop (k + 1) = t := by
  obtain ⟨h1, h2⟩ := nxV_cons h
  refine ⟨?_, h2⟩
  unfold hxV
  dsimp only
  rw [h1]
  dsimp only
  rw [hxi_hxd hi, if_neg (by omega)]
  simp
theorem hex_join_all : ∀ c : Fin 256, UInt8.ofNat (c.val / 16) * 16 + UInt8.ofNat (c.val % 16) = UInt8.ofNat c.val := by decide +kernel
theorem hex_join (c : UInt8) : UInt8.ofNat (c.toNat / 16) * 16 + UInt8.ofNat (c.toNat % 16) = c := by
  have h := hex_join_all ⟨c.toNat, c.toNat_lt⟩
  rw [h]
  simp
theorem u8_neq {a : UInt8} {n : Nat} (h : a.toNat ≠ n) (hn : n < 256) : a ≠ UInt8.ofNat n := fun e => h (by rw [e, UInt8.toNat_ofNat']; omega)
theorem chV_fwd {l rest : List UInt8} {k : Nat} {c : UInt8} (h : l.drop k = qc c ++ rest) : chV l k 0 = (c, k + (qc c).length, 0) := by
  unfold qc at h ⊢
  unfold chV
  dsimp only
  by_cases h1 : c.toNat = 34 ∨ c.toNat = 92
  · rw [if_pos h1] at h ⊢
    obtain ⟨a1, a2⟩ := nxV_cons h
    obtain ⟨b1, b2⟩ := nxV_cons a2
    rw [a1]
    dsimp only
    rw [if_neg (by simp), b1]
    dsimp only
    have : c ≠ 120 := u8_neq (n := 120) (by omega) (by omega)
    rw [if_pos this]
    rfl
  rw [if_neg h1] at h ⊢
  by_cases h2 : 32 ≤ c.toNat ∧ c.toNat ≤ 126
  · rw [if_pos h2] at h ⊢
    obtain ⟨a1, a2⟩ := nxV_cons h
    rw [a1]
    dsimp only
    have : c ≠ 92 := u8_neq (n := 92) (by omega) (by omega)
    rw [if_pos this]
    rfl
  · rw [if_neg h2] at h ⊢
    obtain ⟨a1, a2⟩ := nxV_cons h
    obtain ⟨b1, b2⟩ := nxV_cons a2
    have hlt := c.toNat_lt
    obtain ⟨c1, c2⟩ := hxV_cons (by omega) b2
    obtain ⟨d1, d2⟩ := hxV_cons (by omega) c2
    rw [a1]
    dsimp only
    rw [if_neg (by simp), b1]
    dsimp only
    rw [if_neg (by simp), c1]
    dsimp only
    rw [d1]
    dsimp only
    rw [hex_join]
    rfl
theorem qc_head (c : UInt8) : ∃ b t, qc c = b :: t ∧ (34 : UInt8) ≠ b := by
  unfold qc
  by_cases h1 : c.toNat = 34 ∨ c.toNat = 92
  · rw [if_pos h1]
    exact ⟨92, _, rfl, by decide⟩
  rw [if_neg h1]
  by_cases h2 : 32 ≤ c.toNat ∧ c.toNat ≤ 126
  · rw [if_pos h2]
    exact ⟨c, _, rfl, fun e => h1 (Or.inl (by rw [← e]; rfl))⟩
  · rw [if_neg h2]
    exact ⟨92, _, rfl, by decide⟩
theorem txL_fwd : ∀ (s l rest acc : List UInt8) (f k : Nat), s.length < f → l.drop k = qcs s ++ 34 :: rest → txL l f k 0 acc = (acc ++ s, k + (qcs s).length + 1, 0)
  | [], l, rest, acc, 0, k, hf, h => absurd hf (by simp)
  | [], l, rest, acc, f + 1, k, hf, h => by
    have ht : tkV [34] l k = true := tkV_cons (rest := rest) h
    rw [txL, if_neg (by simp), if_pos ht]
    simp [qcs]
  | c :: s, l, rest, acc, 0, k, hf, h => absurd hf (by simp)
  | c :: s, l, rest, acc, f + 1, k, hf, h => by
    have e : qcs (c :: s) = qc c ++ qcs s := by simp [qcs]
    rw [e] at h ⊢
    rw [List.append_assoc] at h
    obtain ⟨b, t, hb, hb2⟩ := qc_head c
    have ht : tkV [34] l k = false := tkV_head (t := t ++ (qcs s ++ 34 :: rest)) (by rw [h, hb]; rfl) hb2
    rw [txL, if_neg (by simp), ht, if_neg (by simp), chV_fwd h]
    dsimp only
    rw [List.length_cons] at hf
    rw [txL_fwd s l rest (acc ++ [c]) f _ (by omega) (drop_more h)]
    simp
    omega
theorem qc_pos (c : UInt8) : 1 ≤ (qc c).length := by
  obtain ⟨b, t, h, _⟩ := qc_head c
  rw [h]
  simp
theorem qcs_ge : ∀ s : List UInt8, s.length ≤ (qcs s).length
  | [] => Nat.zero_le _
  | c :: s => by
    have h1 := qcs_ge s
    have h2 := qc_pos c
    have e : qcs (c :: s) = qc c ++ qcs s := by simp [qcs]
    rw [e, List.length_append, List.length_cons]
    omega
theorem tq_fwd {l rest s : List UInt8} {k : Nat} (h : l.drop k = qt s ++ rest) : tqV l (k + 1) 0 = (s, k + (qt s).length, 0) := by
  have h1 : l.drop (k + 1) = qcs s ++ 34 :: rest := by
    have := drop_more (a := [34]) (rest := qcs s ++ 34 :: rest) (by rw [h]; simp [qt])
    exact this
  have hl : s.length < 2 * l.length + 3 := by
    have e := congrArg List.length h1
    rw [List.length_drop, List.length_append, List.length_cons] at e
    have := qcs_ge s
    omega
  have e := txL_fwd s l rest [] (2 * l.length + 3) (k + 1) hl h1
  have eq : (qt s).length = (qcs s).length + 2 := by simp [qt]
  unfold tqV
  dsimp only
  rw [e]
  dsimp only
  have hc : qt s = (l.take (k + 1 + (qcs s).length + 1)).drop (k + 1 - 1) := by
    rw [show k + 1 - 1 = k by omega]
    refine (cut_app (a := qt s) ?_ (by omega)).symm
    rw [show k + 1 + (qcs s).length + 1 = k + (qt s).length by omega, drop_more h]
    exact h
  rw [List.nil_append, if_pos hc]
  rw [show k + 1 + (qcs s).length + 1 = k + (qt s).length by omega]
theorem txL_stuck (l : List UInt8) (f k : Nat) {e : Int} (he : e ≠ 0) (acc : List UInt8) : (txL l f k e acc).2.2 = e := by
  cases f with
  | zero => rw [txL]
  | succ f => rw [txL, if_pos he]
theorem tq_bwd {l s : List UInt8} {k k' : Nat} {e : Int} (hk : k + 1 ≤ l.length) (h : tqV l (k + 1) e = (s, k', 0)) : e = 0 ∧ l.drop k = qt s ++ l.drop k' := by
  have hg := (tqV_goes (l := l) (k := k + 1) (e := e) hk).1
  rw [h] at hg
  have hg' : k + 1 ≤ k' := hg
  unfold tqV at h
  dsimp only at h
  injection h with h1 h2
  injection h2 with h2 h3
  by_cases hq : qt (txL l (2 * l.length + 3) (k + 1) e []).1 = (l.take (txL l (2 * l.length + 3) (k + 1) e []).2.1).drop (k + 1 - 1)
  · rw [if_pos hq] at h3
    rw [h1, h2, show k + 1 - 1 = k by omega] at hq
    refine ⟨?_, by rw [hq]; exact drop_cut (by omega)⟩
    by_cases he : e = 0
    · exact he
    · rw [txL_stuck l _ _ he] at h3
      exact h3
  · rw [if_neg hq] at h3
    exact (fe8 h3).elim
end Go.Proofs.YtnfobnnbeefeeaaGreatDoor.Wi
/- Values and their texts: what is printed is read so, and what is read is printed so. -/
namespace Go.Proofs.YtnfobnnbeefeeaaGreatDoor.Wi
open Go Go.RowKit
set_option linter.unusedVariables false
set_option linter.unusedSimpArgs false
theorem nz_pvL : ∀ (l : List VT) (b : Bool), (∀ x ∈ l, x.nz.pv = x.pv) → pvL b (nzL l) = pvL b l
  | [], b, _ => by rw [nzL]
  | x :: l, b, h => by rw [nzL, pvL, pvL, h x (by simp), nz_pvL l true fun y hy => h y (by simp [hy])]
theorem nz_pv : ∀ v : VT, v.nz.pv = v.pv := by
  intro v
  induction v using VT.ind with
  | h k n s ao c l ih =>
    rw [VT.nz, VT.pv, VT.pv]
    by_cases k1 : k = 1
    · simp [k1]
    by_cases k2 : k = 2
    · simp [k2]
    by_cases k3 : k = 3
    · simp only [k3, if_true]
      rw [nz_pvL l false ih]
      simp
    · simp [k1, k2, k3]
theorem nz_ptsL : ∀ (l : List VT), (∀ x ∈ l, x.nz.pts = x.pts) → ptsL (nzL l) = ptsL l
  | [], _ => by rw [nzL]
  | x :: l, h => by rw [nzL, ptsL, ptsL, h x (by simp), nz_ptsL l fun y hy => h y (by simp [hy])]
theorem nz_pts : ∀ v : VT, v.nz.pts = v.pts := by
  intro v
  induction v using VT.ind with
  | h k n s ao c l ih =>
    rw [VT.nz, VT.pts, VT.pts]
    by_cases k3 : k = 3
    · simp only [k3, if_true]
      rw [nz_ptsL l ih]
    · simp [k3]
/-- How many values there are. -/
theorem chk_pts : ∀ (v : VT) (d p : Nat), (v.chk d p).1 = 0 → (v.chk d p).2 = p + v.pts := by
  intro v
  induction v using VT.ind with
  | h k n s ao c l ih =>
    intro d p hc
    rw [VT.chk] at hc ⊢
    rw [VT.pts]
    by_cases hov : 256 < p + 1
    · rw [if_pos hov] at hc; cases hc
    rw [if_neg hov] at hc ⊢
    by_cases k01 : k = 0 ∨ k = 1
    · rw [if_pos k01, if_neg (by omega)]
    rw [if_neg k01] at hc ⊢
    by_cases k2 : k = 2
    · rw [if_pos k2, if_neg (show ¬ k = 3 by omega)]
    rw [if_neg k2] at hc ⊢
    by_cases k3 : k = 3
    · rw [if_pos k3] at hc ⊢
      rw [if_pos k3]
      by_cases hd : 8 ≤ d
      · rw [if_pos hd] at hc; cases hc
      rw [if_neg hd] at hc ⊢
      by_cases hl : 64 < l.length
      · rw [if_pos hl] at hc; cases hc
      rw [if_neg hl] at hc ⊢
      have key : ∀ (m : List VT) (q : Nat), (∀ x ∈ m, x ∈ l) → (chkL m (d + 1) q).1 = 0 → (chkL m (d + 1) q).2 = q + ptsL m := by
        intro m
        induction m with
        | nil => intro q _ _; rw [chkL, ptsL]; rfl
        | cons x m ihm =>
          intro q hm hq
          rw [chkL] at hq ⊢
          rw [ptsL]
          by_cases hx0 : (x.chk (d + 1) q).1 = 0
          · rw [if_neg (fun h => h hx0)] at hq ⊢
            rw [ihm _ (fun y hy => hm y (by simp [hy])) hq, ih x (hm x (by simp)) _ _ hx0]
            omega
          · rw [if_pos hx0] at hq
            exact absurd hq hx0
      rw [key l (p + 1) (fun x hx => hx) hc]
      omega
    · rw [if_neg k3] at hc
      cases hc
theorem pv_head : ∀ v : VT, ∃ c t, v.pv = c :: t ∧ (93 : UInt8) ≠ c := by
  intro v
  obtain ⟨k, n, s, ao, c, l⟩ := v
  rw [VT.pv]
  by_cases k1 : k = 1
  · rw [if_pos k1]
    unfold Lib.itoa
    by_cases hn : n < 0
    · rw [if_pos hn]; exact ⟨45, _, rfl, by decide⟩
    · rw [if_neg hn]
      obtain ⟨c, r, e, hc⟩ := dec_cons n.toNat
      have := isDg_nat hc
      exact ⟨c, r, e, fun e => by rw [← e] at this; exact absurd this.2 (by decide)⟩
  rw [if_neg k1]
  by_cases k2 : k = 2
  · rw [if_pos k2]; exact ⟨34, qcs s ++ [34], rfl, by decide⟩
  rw [if_neg k2]
  by_cases k3 : k = 3
  · rw [if_pos k3]; exact ⟨91, pvL false l ++ [93], rfl, by decide⟩
  · rw [if_neg k3]; exact ⟨110, _, rfl, by decide⟩
theorem itoa_head (n : Int) : ∃ c t, Lib.itoa n = c :: t ∧ (110 : UInt8) ≠ c ∧ (91 : UInt8) ≠ c ∧ (34 : UInt8) ≠ c := by
  unfold Lib.itoa
  by_cases hn : n < 0
  · rw [if_pos hn]; exact ⟨45, _, rfl, by decide, by decide, by decide⟩
  · rw [if_neg hn]
    obtain ⟨c, r, e, hc⟩ := dec_cons n.toNat
    have hb := isDg_nat hc
    refine ⟨c, r, e, ?_, ?_, ?_⟩ <;> (intro e; rw [← e] at hb; revert hb; decide)
theorem stop_93 (t : List UInt8) : Stop (93 :: t) := fun c r h => by injection h with h _; rw [← h]; rfl
theorem stop_32 (t : List UInt8) : Stop (32 :: t) := fun c r h => by injection h with h _; rw [← h]; rfl
theorem stop_nil : Stop [] := fun c r h => by cases h
theorem pvT_len : ∀ m : List VT, m.length ≤ (pvL true m).length
  | [] => Nat.zero_le _
  | x :: m => by
    have := pvT_len m
    rw [pvL]
    simp
    omega
/-- What is printed is read so. -/
theorem paV_fwd (l : List UInt8) : ∀ (v : VT) (f d p k : Nat) (rest : List UInt8), f + d = 9 → d ≤ 8 → v.Num → (v.chk d p).1 = 0 → Stop rest → l.drop k = v.pv ++ rest →
    paV l f d k 0 = (v.nz, k + v.pv.length, 0) := by
  intro v
  induction v using VT.ind with
  | h k0 n s ao c q ih =>
    intro f d p k rest hf hd hN hc hr hx
    obtain ⟨f, rfl⟩ : ∃ g, f = g + 1 := ⟨f - 1, by omega⟩
    rw [VT.chk] at hc
    rw [VT.Num] at hN
    rw [VT.pv] at hx ⊢
    rw [VT.nz, paV]
    by_cases hov : 256 < p + 1
    · rw [if_pos hov] at hc; cases hc
    rw [if_neg hov] at hc
    by_cases k1 : k0 = 1
    · subst k1
      rw [if_pos rfl] at hx ⊢
      obtain ⟨b, t, hb, h110, h91, h34⟩ := itoa_head n
      have hx2 : l.drop k = b :: (t ++ rest) := by rw [hx, hb]; rfl
      rw [tkV_head hx2 h110, tkV_head hx2 h91, tkV_head hx2 h34, nu_fwd hN.1.1 hN.1.2 hx hr]
      simp [nzL]
    rw [if_neg k1] at hx ⊢
    by_cases k2 : k0 = 2
    · subst k2
      rw [if_pos rfl] at hx ⊢
      have hx2 : l.drop k = 34 :: ((qcs s ++ [34]) ++ rest) := by rw [hx]; simp [qt]
      rw [tkV_head hx2 (show (110 : UInt8) ≠ 34 by decide), tkV_head hx2 (show (91 : UInt8) ≠ 34 by decide), tkV_cons (p := [34]) hx2, tq_fwd hx]
      simp [nzL]
    rw [if_neg k2] at hx ⊢
    by_cases k3 : k0 = 3
    · subst k3
      rw [if_pos rfl] at hx ⊢
      have hx2 : l.drop k = 91 :: ((pvL false q ++ [93]) ++ rest) := by rw [hx]; simp
      rw [tkV_head hx2 (show (110 : UInt8) ≠ 91 by decide), tkV_cons (p := [91]) hx2, if_neg (by simp), if_pos rfl]
      simp only [show ¬ ((3 : Int) = 0 ∨ (3 : Int) = 1) by omega, show ¬ (3 : Int) = 2 by omega, if_false, if_true] at hc
      have hd8 : ¬ 8 ≤ d := fun h => by rw [if_pos h] at hc; cases hc
      rw [if_neg hd8] at hc
      have hl : ¬ 64 < q.length := fun h => by rw [if_pos h] at hc; cases hc
      rw [if_neg hl] at hc
      have hx3 : l.drop (k + 1) = pvL false q ++ (93 :: rest) := by
        have := drop_more (a := [91]) hx2
        rw [show k + 1 = k + [(91 : UInt8)].length from rfl, this]
        simp
      have key : ∀ (m : List VT) (x : VT) (i kk g : Nat), (∀ y ∈ x :: m, y ∈ q) → (chkL (x :: m) (d + 1) i).1 = 0 → l.drop kk = x.pv ++ (pvL true m ++ (93 :: rest)) → m.length < g →
          paLoop l (paV l f (d + 1)) g kk 0 = (nzL (x :: m), kk + (x.pv ++ pvL true m).length + 1, 0) := by
        intro m
        induction m with
        | nil =>
          intro x i kk g hm hq hdr hg
          obtain ⟨g, rfl⟩ : ∃ g', g = g' + 1 := ⟨g - 1, by simp at hg; omega⟩
          rw [chkL] at hq
          have hx0 : (x.chk (d + 1) i).1 = 0 := by
            rcases Decidable.em ((x.chk (d + 1) i).1 = 0) with h | h
            · exact h
            · rw [if_pos h] at hq; exact hq
          rw [pvL, List.nil_append] at hdr
          have e := ih x (hm x (by simp)) f (d + 1) i kk (93 :: rest) (by omega) (by omega) (numL_mem hN.2 x (hm x (by simp))) hx0 (stop_93 _) hdr
          rw [paLoop, if_neg (by simp), e]
          dsimp only
          rw [tkV_cons (p := [93]) (rest := rest) (drop_more hdr), if_pos rfl]
          simp [nzL, pvL]
        | cons y m ihm =>
          intro x i kk g hm hq hdr hg
          rw [List.length_cons] at hg
          obtain ⟨g, rfl⟩ : ∃ g', g = g' + 1 := ⟨g - 1, by omega⟩
          rw [chkL] at hq
          have hx0 : (x.chk (d + 1) i).1 = 0 := by
            rcases Decidable.em ((x.chk (d + 1) i).1 = 0) with h | h
            · exact h
            · rw [if_pos h] at hq; exact hq
          rw [if_neg (fun h => h hx0)] at hq
          have hdr2 : l.drop kk = x.pv ++ (32 :: (y.pv ++ (pvL true m ++ 93 :: rest))) := by rw [hdr, pvL]; simp
          have e := ih x (hm x (by simp)) f (d + 1) i kk _ (by omega) (by omega) (numL_mem hN.2 x (hm x (by simp))) hx0 (stop_32 _) hdr2
          have d2 := drop_more hdr2
          have d3 := drop_more (a := [32]) d2
          have e2 := ihm y _ (kk + x.pv.length + 1) g (fun z hz => hm z (List.mem_cons_of_mem _ hz)) hq d3 (by omega)
          rw [paLoop, if_neg (by simp), e]
          dsimp only
          rw [tkV_head d2 (show (93 : UInt8) ≠ 32 by decide), if_neg (by simp), tkV_cons (p := [32]) d2, if_pos rfl, e2]
          dsimp only
          rw [show nzL (x :: y :: m) = x.nz :: nzL (y :: m) by rw [nzL], show pvL true (y :: m) = [32] ++ y.pv ++ pvL true m by rw [pvL]; rfl]
          have e7 : kk + x.pv.length + 1 + (y.pv ++ pvL true m).length + 1 = kk + (x.pv ++ ([32] ++ y.pv ++ pvL true m)).length + 1 := by
            simp only [List.length_append, List.length_cons, List.length_nil]
            omega
          rw [e7]
      unfold paL
      cases q with
      | nil =>
        rw [pvL, List.nil_append] at hx3
        rw [tkV_cons (p := [93]) (rest := rest) hx3, if_pos rfl, if_neg hd8]
        simp [nzL, pvL]
      | cons x m =>
        rw [pvL] at hx3 ⊢
        simp only [Bool.false_eq_true, if_false, List.nil_append] at hx3 ⊢
        rw [List.append_assoc] at hx3
        obtain ⟨b, t, hb, h93⟩ := pv_head x
        rw [tkV_head (p := []) (t := t ++ (pvL true m ++ 93 :: rest)) (by rw [hx3, hb]; rfl) h93, if_neg (by simp), if_neg hd8]
        have hfu : m.length < 2 * l.length + 3 := by
          have := pvT_len m
          have e := congrArg List.length hx3
          rw [List.length_drop, List.length_append, List.length_append] at e
          omega
        rw [key m x (p + 1) (k + 1) _ (fun y hy => hy) hc hx3 hfu]
        simp
        omega
    · rw [if_neg k3] at hx ⊢
      by_cases k0z : k0 = 0
      · subst k0z
        rw [tkV_cons (p := [110, 105, 108]) hx, if_pos rfl]
        simp [nzL]
      · have : ¬ (k0 = 0 ∨ k0 = 1) := by omega
        rw [if_neg this, if_neg k2, if_neg k3] at hc
        cases hc
theorem prV_fwd {v : VT} (hN : v.Num) (hv : v.vE = 0) : prV v.pv = (v.nz, 0) := by
  have e := paV_fwd v.pv v 9 0 0 0 [] rfl (by omega) hN (vE_ok hv).1 stop_nil (by simp)
  have e2 : v.nz.vE = 0 := by
    unfold VT.vE
    rw [nz_chk, nz_vb]
    exact hv
  unfold prV
  rw [e]
  simp [e2]
end Go.Proofs.YtnfobnnbeefeeaaGreatDoor.Wi
/- Values and their texts: what is read is printed so; which errors there are. -/
namespace Go.Proofs.YtnfobnnbeefeeaaGreatDoor.Wi
open Go Go.RowKit
set_option linter.unusedVariables false
set_option linter.unusedSimpArgs false
structure TBack (l : List UInt8) (v : VT) (k k' : Nat) : Prop where
  nz : v.nz = v
  num : v.Num
  kin : v.Kin
  eq : l.drop k = v.pv ++ l.drop k'
structure TBackL (l : List UInt8) (q : List VT) (b : Bool) (k k' : Nat) : Prop where
  nz : nzL q = q
  num : NumL q
  kin : KinL q
  eq : l.drop k = pvL b q ++ (93 :: l.drop k')
theorem paLoop_bwd {l : List UInt8} {F : Nat → Int → VT × Nat × Int} (hG : ∀ k e, k ≤ l.length → Goes l k e (F k e).2.1 (F k e).2.2)
    (hF : ∀ k e v k', k ≤ l.length → F k e = (v, k', 0) → e = 0 ∧ TBack l v k k') : ∀ (g k : Nat) (e : Int) (q : List VT) (k' : Nat), k ≤ l.length → mes l k e < g → paLoop l F g k e = (q, k', 0) → e = 0 ∧ q ≠ [] ∧ TBackL l q false k k'
  | 0, k, e, q, k', hk, hm, h => absurd hm (Nat.not_lt_zero _)
  | g + 1, k, e, q, k', hk, hm, h => by
    rw [paLoop] at h
    by_cases he : e = 0
    · subst he
      rw [if_neg (by simp)] at h
      have hg := hG k 0 hk
      obtain ⟨v, vk, ve, hv⟩ : ∃ v vk ve, F k 0 = (v, vk, ve) := ⟨_, _, _, rfl⟩
      rw [hv] at h hg
      dsimp only at h hg
      by_cases h93 : tkV [93] l vk = true
      · rw [if_pos h93] at h
        injection h with h1 h2
        injection h2 with h2 h3
        subst h1 h2 h3
        obtain ⟨_, hb⟩ := hF _ _ _ _ hk hv
        have hd := tkV_bwd h93
        refine ⟨rfl, by simp, by rw [nzL, nzL, hb.nz], by rw [NumL, NumL]; exact ⟨hb.num, trivial⟩, by rw [KinL, KinL]; exact ⟨hb.kin, trivial⟩, ?_⟩
        rw [hb.eq, hd]
        simp [pvL]
      rw [if_neg h93] at h
      by_cases h32 : tkV [32] l vk = true
      · rw [if_pos h32] at h
        injection h with h1 h2
        have hvk : vk + 1 ≤ l.length := tk_len hg.2.1 h32
        obtain ⟨e1, e2, e3⟩ := paLoop_bwd hG hF g (vk + 1) ve (paLoop l F g (vk + 1) ve).1 k' hvk (by have := mes_step hg hvk; omega) (by rw [← h2])
        subst e1
        obtain ⟨_, hb⟩ := hF _ _ _ _ hk hv
        have hd := tkV_bwd h32
        subst h1
        refine ⟨rfl, by simp, by rw [nzL, hb.nz, e3.nz], by rw [NumL]; exact ⟨hb.num, e3.num⟩, by rw [KinL]; exact ⟨hb.kin, e3.kin⟩, ?_⟩
        rw [hb.eq, hd, show vk + [(32 : UInt8)].length = vk + 1 from rfl, e3.eq, pvL, pvL_true _ e2]
        simp
      · rw [if_neg h32] at h
        injection h with h1 h2
        obtain ⟨e1, _⟩ := paLoop_bwd hG hF g vk (fe ve 8) (paLoop l F g vk (fe ve 8)).1 k' hg.2.1 (by have := mes_bad hg; omega) (by rw [← h2])
        exact (fe8 e1).elim
    · rw [if_pos he] at h
      injection h with h1 h2
      injection h2 with h2 h3
      exact absurd h3 he
theorem mes_lt3 (l : List UInt8) (k : Nat) (e : Int) : mes l k e < 2 * l.length + 3 := by
  unfold mes
  split <;> omega
theorem paV_bwd (l : List UInt8) : ∀ (f d k : Nat) (e : Int) (v : VT) (k' : Nat), f + d = 9 → d ≤ 8 → k ≤ l.length → paV l f d k e = (v, k', 0) → e = 0 ∧ TBack l v k k'
  | 0, d, k, e, v, k', hf, hd, _, _ => absurd hd (by omega)
  | f + 1, d, k, e, v, k', hf, hd, hk, h => by
    rw [paV] at h
    by_cases h1 : tkV [110, 105, 108] l k = true
    · rw [if_pos h1] at h
      injection h with a1 a2
      injection a2 with a2 a3
      subst a1 a2 a3
      refine ⟨rfl, by rw [VT.nz]; simp [nzL], by rw [VT.Num]; exact ⟨by omega, by rw [NumL]; trivial⟩, by rw [VT.Kin]; exact ⟨Or.inl rfl, fun h => by cases h⟩, ?_⟩
      rw [tkV_bwd h1, VT.pv]
      simp
    rw [if_neg h1] at h
    by_cases h2 : tkV [91] l k = true
    · rw [if_pos h2] at h
      obtain ⟨q, K, E, hX⟩ : ∃ q K E, paL l (paV l f (d + 1)) d (k + 1) e = (q, K, E) := ⟨_, _, _, rfl⟩
      rw [hX] at h
      dsimp only at h
      injection h with a1 a2
      injection a2 with a2 a3
      subst a1 a2 a3
      have hk1 : k + 1 ≤ l.length := tk_len hk h2
      have hd2 := tkV_bwd h2
      unfold paL at hX
      have hdd : (if 8 ≤ d then fe e 30 else e) = 0 → e = 0 ∧ ¬ 8 ≤ d := fun h => by
        by_cases h8 : 8 ≤ d
        · rw [if_pos h8] at h; exact absurd (fe_ok h).2 (by omega)
        · rw [if_neg h8] at h; exact ⟨h, h8⟩
      by_cases h93 : tkV [93] l (k + 1) = true
      · rw [if_pos h93] at hX
        injection hX with b1 b2
        injection b2 with b2 b3
        subst b1 b2
        refine ⟨(hdd b3).1, by rw [VT.nz]; simp [nzL], by rw [VT.Num]; exact ⟨by omega, by rw [NumL]; trivial⟩, by rw [VT.Kin]; exact ⟨by omega, fun _ => by rw [KinL]; trivial⟩, ?_⟩
        rw [hd2, show k + [(91 : UInt8)].length = k + 1 from rfl, tkV_bwd h93, VT.pv]
        simp [pvL]
      · rw [if_neg h93] at hX
        have hm : mes l (k + 1) (if 8 ≤ d then fe e 30 else e) < 2 * l.length + 3 := mes_lt3 _ _ _
        generalize hee : (if 8 ≤ d then fe e 30 else e) = ee at hX hm hdd
        by_cases h8 : 8 ≤ d
        · have hne : ee ≠ 0 := fun h => (hdd h).2 h8
          rw [paLoop, if_pos hne] at hX
          injection hX with b1 b2
          injection b2 with b2 b3
          exact absurd b3 hne
        obtain ⟨c1, c2, c3⟩ := paLoop_bwd (fun k e hk => paV_goes l f (d + 1) k e hk) (fun k e v k' hk h => paV_bwd l f (d + 1) k e v k' (by omega) (by omega) hk h) (2 * l.length + 3) (k + 1) ee q K hk1 hm hX
        refine ⟨(hdd c1).1, by rw [VT.nz]; simp [c3.nz], by rw [VT.Num]; exact ⟨by omega, c3.num⟩, by rw [VT.Kin]; exact ⟨by omega, fun _ => c3.kin⟩, ?_⟩
        rw [hd2, show k + [(91 : UInt8)].length = k + 1 from rfl, c3.eq, VT.pv]
        simp
    rw [if_neg h2] at h
    by_cases h3 : tkV [34] l k = true
    · rw [if_pos h3] at h
      obtain ⟨s, K, E, hX⟩ : ∃ q K E, tqV l (k + 1) e = (q, K, E) := ⟨_, _, _, rfl⟩
      rw [hX] at h
      dsimp only at h
      injection h with a1 a2
      injection a2 with a2 a3
      subst a1 a2 a3
      obtain ⟨b1, b2⟩ := tq_bwd (tk_len hk h3) hX
      refine ⟨b1, by rw [VT.nz]; simp [nzL], by rw [VT.Num]; exact ⟨by omega, by rw [NumL]; trivial⟩, by rw [VT.Kin]; exact ⟨by omega, fun h => absurd h (by omega)⟩, ?_⟩
      rw [b2, VT.pv]
      simp
    · rw [if_neg h3] at h
      obtain ⟨n, K, E, hX⟩ : ∃ q K E, nuV l k e = (q, K, E) := ⟨_, _, _, rfl⟩
      rw [hX] at h
      dsimp only at h
      injection h with a1 a2
      injection a2 with a2 a3
      subst a1 a2 a3
      obtain ⟨b1, b2, b3⟩ := nu_bwd hX
      refine ⟨b1, by rw [VT.nz]; simp [nzL], by rw [VT.Num]; exact ⟨b3, by rw [NumL]; trivial⟩, by rw [VT.Kin]; exact ⟨by omega, fun h => absurd h (by omega)⟩, ?_⟩
      rw [b2, VT.pv]
      simp
theorem prV_bwd {l : List UInt8} {v : VT} (h : prV l = (v, 0)) : v.nz = v ∧ v.Num ∧ v.Kin ∧ v.vE = 0 ∧ v.pv = l := by
  obtain ⟨V, K, E, hX⟩ : ∃ V K E, paV l 9 0 0 0 = (V, K, E) := ⟨_, _, _, rfl⟩
  have hg := paV_goes l 9 0 0 0 (Nat.zero_le _)
  unfold prV at h
  rw [hX] at h hg
  dsimp only at h hg
  injection h with h1 h2
  rw [if_pos h2] at h1
  subst h1
  by_cases hK : K < l.length
  · rw [if_pos hK, if_neg (fun h => fe8 h)] at h2
    exact (fe8 h2).elim
  rw [if_neg hK] at h2
  by_cases hE : E = 0
  · subst hE
    rw [if_pos rfl] at h2
    obtain ⟨_, hb⟩ := paV_bwd l 9 0 0 0 V K rfl (by omega) (Nat.zero_le _) hX
    refine ⟨hb.nz, hb.num, hb.kin, h2, ?_⟩
    have e := hb.eq
    rw [List.drop_zero, List.drop_eq_nil_of_le (by omega), List.append_nil] at e
    exact e.symm
  · rw [if_neg hE] at h2
    exact absurd h2 hE
/-- The errors of a parser. -/
def EOk (e : Int) : Prop := e = 0 ∨ e = 8 ∨ e = 30
theorem EOk.fe {e a : Int} (h : EOk e) (ha : EOk a) : EOk (fe e a) := by
  unfold Wi.fe
  split
  · exact ha
  · exact h
theorem ok8 : EOk 8 := Or.inr (Or.inl rfl)
theorem ok30 : EOk 30 := Or.inr (Or.inr rfl)
theorem nxV_ok {l : List UInt8} {k : Nat} {e : Int} (h : EOk e) : EOk (nxV l k e).2.2 := by
  unfold nxV
  split
  · exact h.fe ok8
  · exact h
theorem hxV_ok {l : List UInt8} {k : Nat} {e : Int} (h : EOk e) : EOk (hxV l k e).2.2 := by
  unfold hxV
  dsimp only
  split
  · exact (nxV_ok h).fe ok8
  · exact nxV_ok h
theorem chV_ok {l : List UInt8} {k : Nat} {e : Int} (h : EOk e) : EOk (chV l k e).2.2 := by
  unfold chV
  dsimp only
  split
  · exact nxV_ok h
  split
  · exact nxV_ok (nxV_ok h)
  · exact hxV_ok (hxV_ok (nxV_ok (nxV_ok h)))
theorem txL_ok (l : List UInt8) : ∀ (f k : Nat) (e : Int) (acc : List UInt8), EOk e → EOk (txL l f k e acc).2.2
  | 0, k, e, acc, h => h
  | f + 1, k, e, acc, h => by
    rw [txL]
    split
    · exact h
    split
    · exact h
    · exact txL_ok l f _ _ _ (chV_ok h)
theorem tqV_ok {l : List UInt8} {k : Nat} {e : Int} (h : EOk e) : EOk (tqV l k e).2.2 := by
  unfold tqV
  dsimp only
  split
  · exact txL_ok _ _ _ _ _ h
  · exact (txL_ok _ _ _ _ _ h).fe ok8
theorem nuV_ok {l : List UInt8} {k : Nat} {e : Int} (h : EOk e) : EOk (nuV l k e).2.2 := by
  unfold nuV nuQ
  dsimp only
  split
  · dsimp only
    split
    · exact h
    · exact h.fe ok8
  · exact h.fe ok8
  · exact h.fe ok8
theorem paLoop_ok {l : List UInt8} {F : Nat → Int → VT × Nat × Int} (hF : ∀ k e, EOk e → EOk (F k e).2.2) : ∀ (g k : Nat) (e : Int), EOk e → EOk (paLoop l F g k e).2.2
  | 0, k, e, h => h
  | g + 1, k, e, h => by
    rw [paLoop]
    split
    · exact h
    split
    · exact hF _ _ h
    split
    · exact paLoop_ok hF g _ _ (hF _ _ h)
    · exact paLoop_ok hF g _ _ ((hF _ _ h).fe ok8)
theorem paV_okE (l : List UInt8) : ∀ (f d k : Nat) (e : Int), EOk e → EOk (paV l f d k e).2.2
  | 0, d, k, e, h => h
  | f + 1, d, k, e, h => by
    rw [paV]
    have h3 : EOk (if 8 ≤ d then fe e 30 else e) := by
      split
      · exact h.fe ok30
      · exact h
    split
    · exact h
    split
    · show EOk (paL l (paV l f (d + 1)) d (k + 1) e).2.2
      unfold paL
      split
      · exact h3
      · exact paLoop_ok (fun k e h => paV_okE l f (d + 1) k e h) _ _ _ h3
    split
    · exact tqV_ok h
    · exact nuV_ok h
theorem chk_err : ∀ (v : VT) (d p : Nat), v.Kin → (v.chk d p).1 = 0 ∨ (v.chk d p).1 = 2 ∨ (v.chk d p).1 = 30 := by
  intro v
  induction v using VT.ind with
  | h k n s ao c l ih =>
    intro d p hk
    rw [VT.Kin] at hk
    rw [VT.chk]
    split
    · exact Or.inr (Or.inl rfl)
    split
    · exact Or.inl rfl
    split
    · dsimp only
      split
      · exact Or.inr (Or.inl rfl)
      · exact Or.inl rfl
    split
    · rename_i k3
      split
      · exact Or.inr (Or.inr rfl)
      split
      · exact Or.inr (Or.inl rfl)
      · have key : ∀ (m : List VT) (q : Nat), (∀ x ∈ m, x ∈ l) → (chkL m (d + 1) q).1 = 0 ∨ (chkL m (d + 1) q).1 = 2 ∨ (chkL m (d + 1) q).1 = 30 := by
          intro m
          induction m with
          | nil => intro q _; rw [chkL]; exact Or.inl rfl
          | cons x m ihm =>
            intro q hm
            rw [chkL]
            split
            · exact ih x (hm x (by simp)) _ _ (kinL_mem (hk.2 k3) x (hm x (by simp)))
            · exact ihm _ fun y hy => hm y (by simp [hy])
        exact key l (p + 1) fun x hx => hx
    · omega
theorem vE_err {v : VT} (h : v.Kin) : v.vE = 0 ∨ v.vE = 2 ∨ v.vE = 30 := by
  unfold VT.vE
  split
  · exact chk_err v 0 0 h
  split
  · exact Or.inr (Or.inl rfl)
  · exact Or.inl rfl
theorem prV_bad {l : List UInt8} (h : (prV l).2 ≠ 0) : (prV l).1 = zV ∧ ((prV l).2 = 8 ∨ (prV l).2 = 30 ∨ (prV l).2 = 2) := by
  obtain ⟨V, K, E, hX⟩ : ∃ V K E, paV l 9 0 0 0 = (V, K, E) := ⟨_, _, _, rfl⟩
  have hok := paV_okE l 9 0 0 0 (Or.inl rfl)
  unfold prV at h ⊢
  rw [hX] at h hok ⊢
  dsimp only at h hok ⊢
  rw [if_neg h]
  refine ⟨rfl, ?_⟩
  by_cases hK : K < l.length
  · rw [if_pos hK] at h ⊢
    rw [if_neg (fun h => fe8 h)] at h ⊢
    have := hok.fe ok8
    unfold EOk at this
    omega
  · rw [if_neg hK] at h ⊢
    by_cases hE : E = 0
    · subst hE
      rw [if_pos rfl] at h ⊢
      obtain ⟨_, hb⟩ := paV_bwd l 9 0 0 0 V K rfl (by omega) (Nat.zero_le _) hX
      have := vE_err hb.kin
      omega
    · rw [if_neg hE] at h ⊢
      unfold EOk at hok
      omega
end Go.Proofs.YtnfobnnbeefeeaaGreatDoor.Wi
