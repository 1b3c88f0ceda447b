/- Values and their bytes: what is written is read so. -/
import Derived.Test.YtnfobnnbeefeeaaGreatDoorG6
import Derived.Test.YtnfobnnbeefeeaaGreatDoorG1
import Derived.Test.YtnfobnnbeefeeaaGreatDoorGB
import Derived.Test.YtnfobnnbeefeeaaGreatDoorG2
namespace Go.Proofs.YtnfobnnbeefeeaaGreatDoor.Wi
open Go Go.RowKit
set_option linter.unusedVariables false
set_option linter.unusedSimpArgs false
mutual
/-- The numbers are those of Go. -/
def VT.Num : VT → Prop
  | .mk k n s ao c l => (-9223372036854775808 ≤ n ∧ n ≤ 9223372036854775807) ∧ NumL l
def NumL : List VT → Prop
  | [] => True
  | x :: l => x.Num ∧ NumL l
end
theorem numL_mem : ∀ {l : List VT}, NumL l → ∀ x ∈ l, x.Num
  | [], _, x, hx => by cases hx
  | y :: l, h, x, hx => by
    rw [NumL] at h
    rcases List.mem_cons.1 hx with rfl | hx
    · exact h.1
    · exact numL_mem h.2 x hx
theorem numL_of : ∀ {l : List VT}, (∀ x ∈ l, x.Num) → NumL l
  | [], _ => by rw [NumL]; trivial
  | y :: l, h => by
    rw [NumL]
    exact ⟨h y (by simp), numL_of fun x hx => h x (by simp [hx])⟩
theorem VT.At.num {N : Nat} {w : World} : ∀ {v : VT}, v.At N w → v.Num := by
  intro v
  induction v using VT.ind with
  | h k n s ao c l ih =>
    intro h
    rw [VT.At] at h
    rw [VT.Num]
    exact ⟨h.2.1, numL_of fun x hx => ih x hx (atL_mem h.2.2.2.2.2 x hx)⟩
theorem rb_cons {xs t : List UInt8} {k : Nat} {b : UInt8} (h : xs.drop k = b :: t) : rb xs k 0 = (b, k + 1, 0) ∧ xs.drop (k + 1) = t ∧ k < xs.length := by
  have hk : k < xs.length := by
    rcases Nat.lt_or_ge k xs.length with h2 | h2
    · exact h2
    · rw [List.drop_eq_nil_of_le h2] at h; cases h
  rw [List.drop_eq_getElem_cons hk] at h
  injection h with h1 h2
  exact ⟨by rw [rb_ok hk, h1], h2, hk⟩
theorem fe_no (a : Int) : fe 0 a = a := rfl
theorem fe_yes {e : Int} (h : e ≠ 0) (a : Int) : fe e a = e := by unfold fe; rw [if_neg h]
theorem u8_kind {k : Int} (h : k = 0 ∨ k = 1 ∨ k = 2 ∨ k = 3) : (((UInt8.ofNat k.toNat).toNat : Nat) : Int) = k := by
  rcases h with rfl | rfl | rfl | rfl <;> rfl
theorem vb_pos : ∀ v : VT, 0 < v.vb.length := by
  intro v
  cases v
  rw [VT.vb]
  simp
/-- What is written is read so. -/
theorem dV_fwd : ∀ (v : VT) (f d p k : Nat) (xs rest : List UInt8), f + d = 9 → d ≤ 8 → v.Num → (v.chk d p).1 = 0 → xs.drop k = v.vb ++ rest →
    dV xs f d p k 0 = (v.nz, (v.chk d p).2, k + v.vb.length, 0) := by
  intro v
  induction v using VT.ind with
  | h k0 n s ao c l ih =>
    intro f d p k xs rest hf hd hN hc hx
    obtain ⟨f, rfl⟩ : ∃ g, f = g + 1 := ⟨f - 1, by omega⟩
    rw [VT.chk] at hc ⊢
    rw [VT.vb] at hx ⊢
    rw [List.cons_append] at hx
    rw [VT.nz]
    rw [VT.Num] at hN
    by_cases hov : 256 < p + 1
    · rw [if_pos hov] at hc; cases hc
    rw [if_neg hov] at hc ⊢
    obtain ⟨h1, h2, h3⟩ := rb_cons hx
    rw [dV]
    dsimp only
    rw [h1]
    dsimp only
    rw [if_neg hov]
    have hz : fe 0 0 = 0 := rfl
    by_cases k0z : k0 = 0
    · subst k0z
      simp [hz]
    by_cases k1 : k0 = 1
    · subst k1
      rw [if_pos rfl] at h2
      have hr := rn_fwd (most := 18446744073709551615) h2 (zig_lt hN.1.1 hN.1.2) (by have := zig_lt hN.1.1 hN.1.2; omega)
      rw [hz, hr]
      simp [zag_zig]
      omega
    by_cases k2 : k0 = 2
    · subst k2
      rw [if_neg (by omega), if_pos rfl] at h2
      simp only [show ¬ ((2 : Int) = 0 ∨ (2 : Int) = 1) by omega, if_false, if_true] at hc ⊢
      have hs : ¬ 256 < s.length := by
        intro h
        rw [if_pos h] at hc
        cases hc
      rw [List.append_assoc] at h2
      have hr := rt_fwd h2 (by omega)
      rw [hz, hr]
      simp [hs, hz]
      omega
    by_cases k3 : k0 = 3
    · subst k3
      rw [if_neg (by omega), if_neg (by omega), if_pos rfl] at h2
      simp only [show ¬ ((3 : Int) = 0 ∨ (3 : Int) = 1) by omega, show ¬ (3 : Int) = 2 by omega, if_false, if_true] at hc ⊢
      have hd8 : ¬ 8 ≤ d := by
        intro h
        rw [if_pos h] at hc
        cases hc
      rw [if_neg hd8] at hc ⊢
      have hl : ¬ 64 < l.length := by
        intro h
        rw [if_pos h] at hc
        cases hc
      rw [if_neg hl] at hc ⊢
      rw [List.append_assoc] at h2
      have hr := rn_fwd (most := 4096) h2 (by omega) (by omega)
      have h4 : xs.drop (k + 1 + (enc l.length).length) = vbL l ++ rest := by rw [← List.drop_drop, h2, List.drop_left' rfl]
      have key : ∀ (m : List VT) (q kk : Nat), (∀ x ∈ m, x ∈ l) → (chkL m (d + 1) q).1 = 0 → xs.drop kk = vbL m ++ rest →
          dLoop (dV xs f (d + 1)) m.length q kk 0 = (nzL m, (chkL m (d + 1) q).2, kk + (vbL m).length, 0) := by
        intro m
        induction m with
        | nil =>
          intro q kk _ _ _
          rw [chkL, vbL, nzL]
          rfl
        | cons x m ihm =>
          intro q kk hm hq hdr
          rw [chkL] at hq ⊢
          rw [vbL] at hdr ⊢
          rw [nzL]
          have hx0 : (x.chk (d + 1) q).1 = 0 := by
            rcases Decidable.em ((x.chk (d + 1) q).1 = 0) with h | h
            · exact h
            · rw [if_pos h] at hq; exact hq
          rw [if_neg (by simpa using hx0)] at hq ⊢
          rw [List.append_assoc] at hdr
          have e := ih x (hm x (by simp)) f (d + 1) q kk xs (vbL m ++ rest) (by omega) (by omega) (numL_mem hN.2 x (hm x (by simp))) hx0 hdr
          have e2 := ihm (x.chk (d + 1) q).2 (kk + x.vb.length) (fun y hy => hm y (by simp [hy])) hq (by rw [← List.drop_drop, hdr, List.drop_left' rfl])
          rw [List.length_cons, dLoop, if_neg (by simp), e]
          dsimp only
          rw [e2]
          simp
          omega
      have e := key l (p + 1) _ (fun x hx => hx) hc h4
      rw [hz, if_neg hd8, hr]
      dsimp only
      rw [if_neg hl, hz, e]
      simp
      omega
    · have : ¬ (k0 = 0 ∨ k0 = 1) := by omega
      rw [if_neg this, if_neg k2, if_neg k3] at hc
      cases hc
/-- A value that is read, and no more than so many bytes. -/
theorem rdV_fwd {v : VT} {xs rest : List UInt8} {k : Nat} (hN : v.Num) (hv : v.vE = 0) (hx : xs.drop k = v.vb ++ rest) : rdV xs k 0 = (v.nz, k + v.vb.length, 0) := by
  obtain ⟨h1, h2⟩ := vE_ok hv
  have e := dV_fwd v 9 0 0 k xs rest rfl (by omega) hN h1 hx
  unfold rdV
  rw [e]
  have h3 : ¬ (512 : Int) < ((k + v.vb.length : Nat) : Int) - (k : Int) := by omega
  have h4 : (if (512 : Int) < ((k + v.vb.length : Nat) : Int) - (k : Int) then (2 : Int) else 0) = 0 := if_neg h3
  simp only [if_true, h4]
theorem dcV_fwd {v : VT} (hN : v.Num) (hv : v.vE = 0) : dcV v.vb = (v.nz, 0) := by
  have e := rdV_fwd (xs := v.vb) (k := 0) (rest := []) hN hv (by simp)
  unfold dcV
  rw [e]
  simp [rend, rl]
/-- With others behind it there is none. -/
theorem dcV_more {v : VT} {more : List UInt8} (hN : v.Num) (hv : v.vE = 0) (hm : more ≠ []) : dcV (v.vb ++ more) = (zV, 8) := by
  have e := rdV_fwd (xs := v.vb ++ more) (k := 0) (rest := more) hN hv (by simp)
  unfold dcV
  rw [e]
  have : 0 < more.length := List.length_pos_iff.2 hm
  simp [rend, rl, this]
end Go.Proofs.YtnfobnnbeefeeaaGreatDoor.Wi
/- Values and their bytes: what is read is written so. -/
namespace Go.Proofs.YtnfobnnbeefeeaaGreatDoor.Wi
open Go Go.RowKit
set_option linter.unusedVariables false
set_option linter.unusedSimpArgs false
theorem rb_bwd {xs : List UInt8} {k k' : Nat} {e : Int} {b : UInt8} (h : rb xs k e = (b, k', 0)) : e = 0 ∧ k < xs.length ∧ k' = k + 1 ∧ xs.drop k = b :: xs.drop (k + 1) := by
  by_cases he : e = 0
  · subst he
    rcases Nat.lt_or_ge k xs.length with hk | hk
    · rw [rb_ok hk] at h
      injection h with h1 h2
      injection h2 with h2 _
      exact ⟨rfl, hk, h2.symm, by rw [List.drop_eq_getElem_cons hk, h1]⟩
    · rw [rb_short hk] at h
      injection h with _ h
      injection h with _ h
      cases h
  · rw [rb_err he] at h
    injection h with _ h
    injection h with _ h
    exact absurd h he
theorem rn_bwd {xs : List UInt8} {k n k' most : Nat} {e : Int} (h : rn xs k e most = (n, k', 0)) : e = 0 ∧ n ≤ most ∧ n < 18446744073709551616 ∧ k ≤ k' ∧ k' ≤ xs.length ∧ xs.drop k = enc n ++ xs.drop k' := by
  have e0 : e = 0 := rn_err0 (by rw [h])
  subst e0
  have hn : n ≤ most := by have := rn_le xs k 0 most; rw [h] at this; exact this
  have hn2 : n < 18446744073709551616 := by have := rn_lt xs k 0 most; rw [h] at this; exact this
  obtain ⟨D, hD⟩ : ∃ D, dg 10 xs k 0 0 0 = D := ⟨_, rfl⟩
  obtain ⟨N, K, E⟩ := D
  unfold rn at h
  rw [hD] at h
  dsimp only at h
  injection h with h1 h2
  injection h2 with h2 h3
  have hE : E = 0 := by
    by_cases hm : most < N
    · rw [if_pos hm] at h3; exact (fe_ok h3).1
    · rw [if_neg hm] at h3; exact h3
  subst hE
  rw [if_pos h3] at h1
  subst h1 h2
  obtain ⟨m, hm1, _, hm3, hm4, hm5⟩ := dg_enc 10 xs k 0 0 N K rfl (by simp) (by omega) hD
  have hmN : N = m := by simpa using hm1
  subst hmN
  refine ⟨rfl, hn, hn2, by omega, hm4, ?_⟩
  show xs.drop k = encF 10 N ++ xs.drop K
  rw [hm5]
  have := List.take_append_drop (K - k) (xs.drop k)
  rw [List.drop_drop, show k + (K - k) = K by omega] at this
  exact this.symm
theorem rt_bwd {xs s : List UInt8} {k k' : Nat} {e : Int} (h : rt xs k e = (s, k', 0)) : e = 0 ∧ s.length ≤ 4096 ∧ k ≤ k' ∧ k' ≤ xs.length ∧ xs.drop k = enc s.length ++ (s ++ xs.drop k') := by
  obtain ⟨R, hR⟩ : ∃ R, rn xs k e 4096 = R := ⟨_, rfl⟩
  obtain ⟨n, K, E⟩ := R
  unfold rt at h
  rw [hR] at h
  dsimp only at h
  unfold nx at h
  by_cases hE : E = 0
  · subst hE
    rw [if_neg (by simp)] at h
    obtain ⟨h1, h2, h3, h4, h5, h6⟩ := rn_bwd hR
    by_cases hn : K + n ≤ xs.length
    · rw [if_pos hn] at h
      injection h with ha hb
      injection hb with hb _
      have hs : s.length = n := by rw [← ha, List.length_take, List.length_drop]; omega
      refine ⟨h1, by omega, by omega, by omega, ?_⟩
      rw [hs, h6, ← ha, ← hb]
      congr 1
      rw [← List.drop_drop, List.take_append_drop]
    · rw [if_neg hn] at h
      injection h with _ h
      injection h with _ h
      cases h
  · rw [if_pos hE] at h
    injection h with _ h
    injection h with _ h
    exact absurd h hE
theorem nzL_len (l : List VT) : (nzL l).length = l.length := by rw [nzL_map, List.length_map]
/-- A value that is read is its own, may be, and has just those bytes. -/
structure Back (xs : List UInt8) (v : VT) (d p p' k k' : Nat) : Prop where
  nz : v.nz = v
  num : v.Num
  chk : v.chk d p = (0, p')
  le : k ≤ k'
  lt : k' ≤ xs.length
  eq : xs.drop k = v.vb ++ xs.drop k'
structure BackL (xs : List UInt8) (l : List VT) (d p p' k k' : Nat) : Prop where
  nz : nzL l = l
  num : NumL l
  chk : chkL l d p = (0, p')
  le : k ≤ k'
  lt : k' ≤ xs.length
  eq : xs.drop k = vbL l ++ xs.drop k'
theorem dLoop_bwd {xs : List UInt8} {g : Nat → Nat → Int → VT × Nat × Nat × Int} {d : Nat}
    (hg : ∀ p k e v p' k', g p k e = (v, p', k', 0) → k ≤ xs.length → e = 0 ∧ Back xs v d p p' k k') : ∀ (n p k : Nat) (e : Int) (l : List VT) (p' k' : Nat), dLoop g n p k e = (l, p', k', 0) → k ≤ xs.length → e = 0 ∧ l.length = n ∧ BackL xs l d p p' k k'
  | 0, p, k, e, l, p', k', h, hk => by
    rw [dLoop] at h
    injection h with h1 h2
    injection h2 with h2 h3
    injection h3 with h3 h4
    subst h1 h2 h3 h4
    exact ⟨rfl, rfl, by rw [nzL], by rw [NumL]; trivial, by rw [chkL], Nat.le_refl _, hk, by rw [vbL]; rfl⟩
  | n + 1, p, k, e, l, p', k', h, hk => by
    rw [dLoop] at h
    by_cases he : e = 0
    · rw [if_neg (by simpa using he)] at h
      obtain ⟨v, q, m, E, hv⟩ : ∃ v q m E, g p k e = (v, q, m, E) := ⟨_, _, _, _, rfl⟩
      rw [hv] at h
      dsimp only at h
      injection h with h1 h2
      have hE : E = 0 := dLoop_err0 n q m E (by rw [h2])
      subst hE
      obtain ⟨_, hb⟩ := hg _ _ _ _ _ _ hv hk
      obtain ⟨_, hl, hL⟩ := dLoop_bwd hg n q m 0 (dLoop g n q m 0).1 p' k' (by rw [← h2]) hb.lt
      subst h1
      refine ⟨he, by rw [List.length_cons, hl], by rw [nzL, hb.nz, hL.nz], by rw [NumL]; exact ⟨hb.num, hL.num⟩, ?_, Nat.le_trans hb.le hL.le, hL.lt, ?_⟩
      · rw [chkL, hb.chk, if_neg (by simp)]
        exact hL.chk
      · rw [vbL, hb.eq, hL.eq, List.append_assoc]
    · rw [if_pos he] at h
      injection h with h1 h2
      injection h2 with h2 h3
      injection h3 with h3 h4
      exact absurd h4 he
theorem u8_of (b : UInt8) : UInt8.ofNat (b.toNat : Int).toNat = b := by simp
theorem dV_bwd (xs : List UInt8) : ∀ (f d p k : Nat) (e : Int) (v : VT) (p' k' : Nat), f + d = 9 → d ≤ 8 → k ≤ xs.length → dV xs f d p k e = (v, p', k', 0) → e = 0 ∧ Back xs v d p p' k k'
  | 0, d, p, k, e, v, p', k', hf, hd, _, h => absurd hd (by omega)
  | f + 1, d, p, k, e, v, p', k', hf, hd, hk, h => by
    obtain ⟨b, K, E, hb⟩ : ∃ b K E, rb xs k e = (b, K, E) := ⟨_, _, _, rfl⟩
    rw [dV] at h
    dsimp only at h
    rw [hb] at h
    dsimp only at h
    have fin : ∀ {a : Int}, fe E a = 0 → e = 0 ∧ k < xs.length ∧ K = k + 1 ∧ xs.drop k = b :: xs.drop (k + 1) := fun ha => by
      have := (fe_ok ha).1
      subst this
      exact rb_bwd hb
    have ov : ∀ {a : Int}, fe E (if 256 < p + 1 then 2 else 0) = 0 → ¬ 256 < p + 1 := fun ha h2 => by
      rw [if_pos h2] at ha
      exact absurd (fe_ok ha).2 (by omega)
    by_cases b0 : b.toNat = 0
    · rw [if_pos b0] at h
      injection h with h1 h2
      injection h2 with h2 h3
      injection h3 with h3 h4
      obtain ⟨e0, hkl, hK, hdr⟩ := fin h4
      have hov := ov (a := 0) h4
      subst h1 h2 h3 hK e0
      refine ⟨rfl, by rw [VT.nz]; simp [nzL], by rw [VT.Num]; exact ⟨by omega, by rw [NumL]; trivial⟩, ?_, by omega, by omega, ?_⟩
      · rw [VT.chk, if_neg hov, if_pos (Or.inl rfl)]
      · rw [hdr, VT.vb]
        simp
        exact UInt8.toNat_inj.1 (by simpa using b0)
    rw [if_neg b0] at h
    by_cases b1 : b.toNat = 1
    · rw [if_pos b1] at h
      obtain ⟨n, K2, E2, hn⟩ : ∃ n K2 E2, rn xs K (fe E (if 256 < p + 1 then 2 else 0)) 18446744073709551615 = (n, K2, E2) := ⟨_, _, _, rfl⟩
      rw [hn] at h
      dsimp only at h
      injection h with h1 h2
      injection h2 with h2 h3
      injection h3 with h3 h4
      subst h4
      obtain ⟨g1, g2, g3, g4, g5, g6⟩ := rn_bwd hn
      obtain ⟨e0, hkl, hK, hdr⟩ := fin g1
      have hov := ov (a := 0) g1
      subst h1 h2 h3 hK e0
      have hz := zag_bd g3
      refine ⟨rfl, by rw [VT.nz]; simp [nzL], by rw [VT.Num]; exact ⟨hz, by rw [NumL]; trivial⟩, ?_, by omega, by omega, ?_⟩
      · rw [VT.chk, if_neg hov, if_pos (Or.inr rfl)]
      · rw [hdr, VT.vb, g6, if_pos rfl, zig_zag]
        have : UInt8.ofNat (1 : Int).toNat = b := UInt8.toNat_inj.1 (by rw [b1]; rfl)
        rw [this]
        simp
    rw [if_neg b1] at h
    by_cases b2 : b.toNat = 2
    · rw [if_pos b2] at h
      obtain ⟨s, K2, E2, hn⟩ : ∃ n K2 E2, rt xs K (fe E (if 256 < p + 1 then 2 else 0)) = (n, K2, E2) := ⟨_, _, _, rfl⟩
      rw [hn] at h
      dsimp only at h
      injection h with h1 h2
      injection h2 with h2 h3
      injection h3 with h3 h4
      obtain ⟨h5, h6⟩ := fe_ok h4
      subst h5
      have hs : ¬ 256 < s.length := fun h7 => by rw [if_pos h7] at h6; cases h6
      obtain ⟨g1, g2, g3, g4, g5⟩ := rt_bwd hn
      obtain ⟨e0, hkl, hK, hdr⟩ := fin g1
      have hov := ov (a := 0) g1
      subst h1 h2 h3 hK e0
      refine ⟨rfl, by rw [VT.nz]; simp [nzL], by rw [VT.Num]; exact ⟨by omega, by rw [NumL]; trivial⟩, ?_, by omega, by omega, ?_⟩
      · rw [VT.chk, if_neg hov, if_neg (by omega), if_pos rfl, if_neg hs]
      · rw [hdr, VT.vb, g5, if_neg (by omega), if_pos rfl]
        have : UInt8.ofNat (2 : Int).toNat = b := UInt8.toNat_inj.1 (by rw [b2]; rfl)
        rw [this]
        simp
    rw [if_neg b2] at h
    by_cases b3 : b.toNat = 3
    · rw [if_pos b3] at h
      obtain ⟨n, K2, E2, hn⟩ : ∃ n K2 E2, rn xs K (if 8 ≤ d then fe (fe E (if 256 < p + 1 then 2 else 0)) 30 else fe E (if 256 < p + 1 then 2 else 0)) 4096 = (n, K2, E2) := ⟨_, _, _, rfl⟩
      rw [hn] at h
      dsimp only at h
      obtain ⟨l, q, m, E3, hl⟩ : ∃ l q m E3, dLoop (dV xs f (d + 1)) n (p + 1) K2 (fe E2 (if 64 < n then 2 else 0)) = (l, q, m, E3) := ⟨_, _, _, _, rfl⟩
      rw [hl] at h
      dsimp only at h
      injection h with h1 h2
      injection h2 with h2 h3
      injection h3 with h3 h4
      subst h4
      have h5 := dLoop_err0 n (p + 1) K2 (fe E2 (if 64 < n then 2 else 0)) (by rw [hl])
      obtain ⟨h6, h7⟩ := fe_ok h5
      subst h6
      have hn64 : ¬ 64 < n := fun h8 => by rw [if_pos h8] at h7; cases h7
      obtain ⟨g1, g2, g3, g4, g5, g6⟩ := rn_bwd hn
      have hd8 : ¬ 8 ≤ d := fun h8 => by rw [if_pos h8] at g1; exact absurd (fe_ok g1).2 (by omega)
      rw [if_neg hd8] at g1
      obtain ⟨e0, hkl, hK, hdr⟩ := fin g1
      have hov := ov (a := 0) g1
      obtain ⟨_, hln, hL⟩ := dLoop_bwd (d := d + 1) (fun p k e v p' k' hg hk' => dV_bwd xs f (d + 1) p k e v p' k' (by omega) (by omega) hk' hg) n (p + 1) K2 _ l q m hl g5
      subst h1 h2 h3 hK e0
      have := hL.le
      refine ⟨rfl, by rw [VT.nz]; simp [hL.nz], by rw [VT.Num]; exact ⟨by omega, hL.num⟩, ?_, by omega, hL.lt, ?_⟩
      · rw [VT.chk, if_neg hov, if_neg (by omega), if_neg (by omega), if_pos rfl, if_neg hd8, if_neg (by omega)]
        exact hL.chk
      · rw [hdr, VT.vb, g6, if_neg (by omega), if_neg (by omega), if_pos rfl, hL.eq, hln]
        have : UInt8.ofNat (3 : Int).toNat = b := UInt8.toNat_inj.1 (by rw [b3]; rfl)
        rw [this]
        simp
    rw [if_neg b3] at h
    injection h with h1 h2
    injection h2 with h2 h3
    injection h3 with h3 h4
    exact absurd (fe_ok h4).2 (by omega)
theorem rdV_bwd {xs : List UInt8} {k k' : Nat} {v : VT} (h : rdV xs k 0 = (v, k', 0)) (hk : k ≤ xs.length) : v.nz = v ∧ v.Num ∧ v.vE = 0 ∧ k ≤ k' ∧ k' ≤ xs.length ∧ xs.drop k = v.vb ++ xs.drop k' := by
  obtain ⟨V, P, K, E, hX⟩ : ∃ V P K E, dV xs 9 0 0 k 0 = (V, P, K, E) := ⟨_, _, _, _, rfl⟩
  unfold rdV at h
  rw [hX] at h
  dsimp only at h
  injection h with h1 h2
  injection h2 with h2 h3
  rw [if_pos h3] at h1
  subst h1 h2
  have hE : E = 0 := by
    by_cases hE : E = 0
    · exact hE
    · rw [if_neg hE] at h3; exact h3
  subst hE
  rw [if_pos rfl] at h3
  obtain ⟨_, hb⟩ := dV_bwd xs 9 0 0 k 0 V P K rfl (by omega) hk hX
  have hlen : ¬ (512 : Int) < (K : Int) - (k : Int) := fun h => by rw [if_pos h] at h3; cases h3
  have hl : K = k + V.vb.length := by
    have e := congrArg List.length hb.eq
    rw [List.length_append, List.length_drop, List.length_drop] at e
    have := hb.le
    have := hb.lt
    omega
  refine ⟨hb.nz, hb.num, ?_, hb.le, hb.lt, hb.eq⟩
  unfold VT.vE
  rw [hb.chk, if_neg (by simp), if_neg (by omega)]
/-- Bytes that are read as a value are its own. -/
theorem dcV_bwd {xs : List UInt8} {v : VT} (h : dcV xs = (v, 0)) : v.nz = v ∧ v.Num ∧ v.vE = 0 ∧ v.vb = xs := by
  obtain ⟨V, K, E, hX⟩ : ∃ V K E, rdV xs 0 0 = (V, K, E) := ⟨_, _, _, rfl⟩
  unfold dcV at h
  rw [hX] at h
  dsimp only at h
  injection h with h1 h2
  rw [if_pos h2] at h1
  subst h1
  unfold rend at h2
  by_cases hr : 0 < rl xs K E
  · rw [if_pos hr] at h2; cases h2
  rw [if_neg hr] at h2
  subst h2
  obtain ⟨a1, a2, a3, a4, a5, a6⟩ := rdV_bwd hX (by omega)
  refine ⟨a1, a2, a3, ?_⟩
  unfold rl at hr
  rw [if_pos rfl] at hr
  rw [List.drop_zero, List.drop_eq_nil_of_le (by omega), List.append_nil] at a6
  exact a6.symm
theorem dcV_bad {xs : List UInt8} (h : (dcV xs).2 ≠ 0) : (dcV xs).1 = zV := by
  unfold dcV at h ⊢
  dsimp only at h ⊢
  rw [if_neg h]
/-- Unlike values have unlike bytes. -/
theorem vb_inj {a b : VT} (ha : a.Num) (hb : b.Num) (ea : a.vE = 0) (eb : b.vE = 0) : a.vb = b.vb ↔ a.nz = b.nz := by
  constructor
  · intro h
    have h1 := dcV_fwd ha ea
    have h2 := dcV_fwd hb eb
    rw [h, h2] at h1
    exact (congrArg Prod.fst h1).symm
  · intro h
    rw [← nz_vb a, ← nz_vb b, h]
end Go.Proofs.YtnfobnnbeefeeaaGreatDoor.Wi
/- Values and their bytes: bytes that end too soon are none. -/
namespace Go.Proofs.YtnfobnnbeefeeaaGreatDoor.Wi
open Go Go.RowKit
set_option linter.unusedVariables false
set_option linter.unusedSimpArgs false
theorem drop_nil {xs : List UInt8} {k : Nat} (h : xs.drop k = []) : xs.length ≤ k := by
  have e := congrArg List.length h
  rw [List.length_drop, List.length_nil] at e
  omega
theorem dg_short : ∀ (f m i n k j : Nat) (xs : List UInt8), i + f = 10 → xs.drop k = (encF f m).take j → j < (encF f m).length → (dg f xs k 0 i n).2.2 = 6
  | 0, m, i, n, k, j, xs, _, _, hj => by rw [encF] at hj; exact absurd hj (by simp)
  | f + 1, m, i, n, k, 0, xs, hi, hd, hj => by
    rw [List.take_zero] at hd
    have e := rb_short (drop_nil hd)
    simp [dg, e]
  | f + 1, m, i, n, k, j + 1, xs, hi, hd, hj => by
    rw [encF_succ] at hd hj
    by_cases hm : m < 128
    · rw [if_pos hm] at hj; simp at hj
    rw [if_neg hm] at hd hj
    rw [List.take_succ_cons] at hd
    rw [List.length_cons] at hj
    obtain ⟨h1, h2, h3⟩ := rb_cons hd
    have hf : 0 < f := by
      rcases f with _ | f
      · rw [encF] at hj; simp at hj
      · omega
    have hb : bad i (m % 128 + 128) = false := by
      unfold bad
      simp; omega
    have hx : (UInt8.ofNat (m % 128 + 128)).toNat = m % 128 + 128 := by rw [UInt8.toNat_ofNat']; omega
    have ih := fun n' => dg_short f (m / 128) (i + 1) n' (k + 1) j xs (by omega) h2 (by omega)
    simp only [dg, h1, hx, hb, Bool.false_and, Bool.false_eq_true, if_false]
    rw [if_neg (by simp)]
    exact ih _
theorem rn_short {xs : List UInt8} {k m most j : Nat} (hd : xs.drop k = (enc m).take j) (hj : j < (enc m).length) : (rn xs k 0 most).1 = 0 ∧ (rn xs k 0 most).2.2 = 6 := by
  have h := dg_short 10 m 0 0 k j xs rfl hd hj
  have h6 : (if most < (dg 10 xs k 0 0 0).1 then fe (dg 10 xs k 0 0 0).2.2 2 else (dg 10 xs k 0 0 0).2.2) = 6 := by
    rw [h]
    split <;> rfl
  unfold rn
  dsimp only
  rw [h6]
  exact ⟨by simp, rfl⟩
theorem take_app_lt {a b : List UInt8} {j : Nat} (h : j < a.length) : (a ++ b).take j = a.take j := by
  rw [List.take_append_of_le_length (by omega)]
theorem take_app_ge {a b : List UInt8} {j : Nat} (h : a.length ≤ j) : (a ++ b).take j = a ++ b.take (j - a.length) := by
  rw [List.take_append, List.take_of_length_le h]
theorem rt_short {xs s : List UInt8} {k j : Nat} (hs : s.length ≤ 4096) (hd : xs.drop k = (enc s.length ++ s).take j) (hj : j < (enc s.length ++ s).length) : (rt xs k 0).2.2 = 6 := by
  unfold rt
  rcases Nat.lt_or_ge j (enc s.length).length with h | h
  · rw [take_app_lt h] at hd
    obtain ⟨h1, h2⟩ := rn_short (most := 4096) hd h
    rw [h1, h2]
    rfl
  · rw [take_app_ge h] at hd
    have hr := rn_fwd (most := 4096) hd (by omega) hs
    rw [hr]
    rw [List.length_append] at hj
    have e := congrArg List.length hd
    rw [List.length_drop, List.length_append, List.length_take] at e
    unfold nx
    dsimp only
    rw [if_neg (by simp), if_neg (by
      have : 0 < (enc s.length).length := by unfold enc; rw [encF_len]; split <;> omega
      omega)]
theorem dLoop_stuck (g : Nat → Nat → Int → VT × Nat × Nat × Int) (n p k : Nat) {e : Int} (he : e ≠ 0) : (dLoop g n p k e).2.2.2 = e := by
  cases n with
  | zero => rw [dLoop]
  | succ n => rw [dLoop, if_pos he]
theorem dV_short : ∀ (v : VT) (f d p k j : Nat) (xs : List UInt8), f + d = 9 → d ≤ 8 → v.Num → (v.chk d p).1 = 0 → xs.drop k = v.vb.take j → j < v.vb.length → (dV xs f d p k 0).2.2.2 = 6 := by
  intro v
  induction v using VT.ind with
  | h k0 n s ao c l ih =>
    intro f d p k j xs hf hd hN hc hx hj
    obtain ⟨f, rfl⟩ : ∃ g, f = g + 1 := ⟨f - 1, by omega⟩
    rw [VT.chk] at hc
    rw [VT.vb] at hx hj
    rw [VT.Num] at hN
    by_cases hov : 256 < p + 1
    · rw [if_pos hov] at hc; cases hc
    rw [if_neg hov] at hc
    rw [dV]
    dsimp only
    have hz : ∀ a, fe 0 a = a := fun _ => rfl
    cases j with
    | zero =>
      rw [List.take_zero] at hx
      rw [rb_short (drop_nil hx)]
      dsimp only
      rw [if_neg hov]
      rfl
    | succ j =>
      rw [List.take_succ_cons] at hx
      rw [List.length_cons] at hj
      obtain ⟨h1, h2, h3⟩ := rb_cons hx
      rw [h1]
      dsimp only
      rw [if_neg hov, hz]
      by_cases k0z : k0 = 0
      · subst k0z
        simp at hj
      by_cases k1 : k0 = 1
      · subst k1
        rw [if_pos rfl] at h2 hj
        obtain ⟨_, hr⟩ := rn_short (most := 18446744073709551615) h2 (by omega)
        rw [if_neg (by decide), if_pos (by decide)]
        exact hr
      by_cases k2 : k0 = 2
      · subst k2
        rw [if_neg (by omega), if_pos rfl] at h2 hj
        simp only [show ¬ ((2 : Int) = 0 ∨ (2 : Int) = 1) by omega, if_false, if_true] at hc
        have hs : ¬ 256 < s.length := by
          intro h
          rw [if_pos h] at hc
          cases hc
        have hr := rt_short (by omega) h2 (by omega)
        rw [if_neg (by decide), if_neg (by decide), if_pos (by decide)]
        show fe (rt xs (k + 1) 0).2.2 _ = 6
        rw [hr]
        rfl
      by_cases k3 : k0 = 3
      · subst k3
        rw [if_neg (by omega), if_neg (by omega), if_pos rfl] at h2 hj
        simp only [show ¬ ((3 : Int) = 0 ∨ (3 : Int) = 1) by omega, show ¬ (3 : Int) = 2 by omega, if_false, if_true] at hc
        have hd8 : ¬ 8 ≤ d := by
          intro h
          rw [if_pos h] at hc
          cases hc
        rw [if_neg hd8] at hc
        have hl : ¬ 64 < l.length := by
          intro h
          rw [if_pos h] at hc
          cases hc
        rw [if_neg hl] at hc
        rw [if_neg (by decide), if_neg (by decide), if_neg (by decide), if_pos (by decide), if_neg hd8]
        rcases Nat.lt_or_ge j (enc l.length).length with h | h
        · rw [take_app_lt h] at h2
          obtain ⟨g1, g2⟩ := rn_short (most := 4096) h2 h
          rw [g1, g2]
          rfl
        · rw [take_app_ge h] at h2
          have hr := rn_fwd (most := 4096) h2 (by omega) (by omega)
          have h4 : xs.drop (k + 1 + (enc l.length).length) = (vbL l).take (j - (enc l.length).length) := by rw [← List.drop_drop, h2, List.drop_left' rfl]
          rw [List.length_append] at hj
          have key : ∀ (m : List VT) (q kk i : Nat), (∀ x ∈ m, x ∈ l) → (chkL m (d + 1) q).1 = 0 → xs.drop kk = (vbL m).take i → i < (vbL m).length →
              (dLoop (dV xs f (d + 1)) m.length q kk 0).2.2.2 = 6 := by
            intro m
            induction m with
            | nil =>
              intro q kk i _ _ _ hi
              rw [vbL] at hi
              simp at hi
            | cons x m ihm =>
              intro q kk i hm hq hdr hi
              rw [chkL] at hq
              rw [vbL] at hdr hi
              have hx0 : (x.chk (d + 1) q).1 = 0 := by
                rcases Decidable.em ((x.chk (d + 1) q).1 = 0) with h | h
                · exact h
                · rw [if_pos h] at hq; exact hq
              rw [if_neg (by simpa using hx0)] at hq
              rw [List.length_cons, dLoop, if_neg (by simp)]
              have hxn := numL_mem hN.2 x (hm x (by simp))
              rcases Nat.lt_or_ge i x.vb.length with hi2 | hi2
              · rw [take_app_lt hi2] at hdr
                have e := ih x (hm x (by simp)) f (d + 1) q kk i xs (by omega) (by omega) hxn hx0 hdr hi2
                show (dLoop (dV xs f (d + 1)) m.length _ _ _).2.2.2 = 6
                rw [e]
                exact dLoop_stuck _ _ _ _ (by omega)
              · rw [take_app_ge hi2] at hdr
                rw [List.length_append] at hi
                have e := dV_fwd x f (d + 1) q kk xs _ (by omega) (by omega) hxn hx0 hdr
                rw [e]
                exact ihm (x.chk (d + 1) q).2 (kk + x.vb.length) (i - x.vb.length) (fun y hy => hm y (by simp [hy])) hq (by rw [← List.drop_drop, hdr, List.drop_left' rfl]) (by omega)
          have e := key l (p + 1) _ _ (fun x hx => hx) hc h4 (by omega)
          rw [hr]
          dsimp only
          rw [if_neg hl, hz]
          exact e
      · have : ¬ (k0 = 0 ∨ k0 = 1) := by omega
        rw [if_neg this, if_neg k2, if_neg k3] at hc
        cases hc
/-- Bytes of a value that end too soon. -/
theorem dcV_short {v : VT} {j : Nat} (hN : v.Num) (hv : v.vE = 0) (hj : j < v.vb.length) : dcV (v.vb.take j) = (zV, 6) := by
  have e := dV_short v 9 0 0 0 j (v.vb.take j) rfl (by omega) hN (vE_ok hv).1 (by simp) hj
  unfold dcV rdV
  dsimp only
  rw [e]
  simp [rend, rl]
end Go.Proofs.YtnfobnnbeefeeaaGreatDoor.Wi
/- The order of values. -/
namespace Go.Proofs.YtnfobnnbeefeeaaGreatDoor.Wi
open Go Go.RowKit
set_option linter.unusedVariables false
set_option linter.unusedSimpArgs false
theorem icmp_anti (a b : Int) : icmp b a = - icmp a b := by
  unfold icmp
  by_cases h : a < b
  · rw [if_neg (by omega), if_pos h, if_pos h]; rfl
  · by_cases h2 : b < a
    · rw [if_pos h2, if_neg h, if_pos h2]
    · rw [if_neg h2, if_neg h, if_neg h, if_neg h2]; rfl
theorem icmp_zero {a b : Int} : icmp a b = 0 ↔ a = b := by
  unfold icmp
  by_cases h : a < b
  · rw [if_pos h]; omega
  · by_cases h2 : b < a
    · rw [if_neg h, if_pos h2]; omega
    · rw [if_neg h, if_neg h2]; omega
theorem icmp_neg {a b : Int} : icmp a b < 0 ↔ a < b := by
  unfold icmp
  by_cases h : a < b
  · rw [if_pos h]; omega
  · by_cases h2 : b < a
    · rw [if_neg h, if_pos h2]; omega
    · rw [if_neg h, if_neg h2]; omega
/-- Three comparisons that go together. -/
def T3 (x y z : Int) : Prop := (x = 0 → z = y) ∧ (y = 0 → z = x) ∧ (x < 0 → y < 0 → z < 0)
instance (x y z : Int) : Decidable (T3 x y z) := by unfold T3; infer_instance
def lex (p q : Int) : Int := if p ≠ 0 then p else q
theorem lex_T3 {p q r a b c : Int} (h : T3 p q r) (h2 : p = 0 → q = 0 → T3 a b c) : T3 (lex p a) (lex q b) (lex r c) := by
  obtain ⟨h3, h4, h5⟩ := h
  unfold lex
  by_cases hp : p = 0
  · have hr := h3 hp
    subst hr
    by_cases hq : r = 0
    · simp only [hp, hq, ne_eq, not_true_eq_false, if_false]
      exact h2 hp hq
    · simp only [hp, hq, ne_eq, not_true_eq_false, not_false_eq_true, if_false, if_true]
      exact ⟨fun _ => rfl, fun h => absurd h hq, fun _ h => h⟩
  · by_cases hq : q = 0
    · have hr := h4 hq
      subst hr
      simp only [hp, hq, ne_eq, not_true_eq_false, not_false_eq_true, if_false, if_true]
      exact ⟨fun h => absurd h hp, fun _ => rfl, fun h _ => h⟩
    · simp only [hp, hq, ne_eq, not_false_eq_true, if_true]
      refine ⟨fun h => absurd h hp, fun h => absurd h hq, fun h6 h7 => ?_⟩
      have := h5 h6 h7
      rw [if_pos (by omega)]
      exact this
theorem icmp_T3 (a b c : Int) : T3 (icmp a b) (icmp b c) (icmp a c) := by
  refine ⟨fun h => ?_, fun h => ?_, fun h h2 => ?_⟩
  · rw [icmp_zero.1 h]
  · rw [icmp_zero.1 h]
  · have := icmp_neg.1 h
    have := icmp_neg.1 h2
    exact icmp_neg.2 (by omega)
theorem cmpB_cons (x y : UInt8) (a b : List UInt8) : Lib.compareBytes (x :: a) (y :: b) = lex (icmp x.toNat y.toNat) (Lib.compareBytes a b) := by
  have e : Lib.compareBytes (x :: a) (y :: b) = if x < y then -1 else if y < x then 1 else Lib.compareBytes a b := rfl
  rw [e]
  unfold lex icmp
  simp only [UInt8.lt_iff_toNat_lt, Int.ofNat_lt]
  by_cases h : x.toNat < y.toNat
  · simp [h]
  · by_cases h2 : y.toNat < x.toNat
    · simp [h, h2]
    · simp [h, h2]
theorem cmpB_T3 : ∀ a b c : List UInt8, T3 (Lib.compareBytes a b) (Lib.compareBytes b c) (Lib.compareBytes a c)
  | [], [], c => ⟨fun _ => rfl, fun h => h, fun h => absurd h (by decide)⟩
  | [], _ :: _, [] => (by decide : T3 (-1) 1 0)
  | [], y :: b, z :: c => (⟨fun h => absurd h (by decide), fun _ => rfl, fun h _ => h⟩ : T3 (-1) _ (-1))
  | _ :: _, [], [] => (by decide : T3 1 0 1)
  | _ :: _, [], _ :: _ => (⟨fun h => absurd h (by decide), fun h => absurd h (by decide), fun h => absurd h (by decide)⟩ : T3 1 (-1) _)
  | _ :: _, _ :: _, [] => (⟨fun _ => rfl, fun h => absurd h (by decide), fun _ h => absurd h (by decide)⟩ : T3 _ 1 1)
  | x :: a, y :: b, z :: c => by
    rw [cmpB_cons, cmpB_cons, cmpB_cons]
    exact lex_T3 (icmp_T3 _ _ _) fun _ _ => cmpB_T3 a b c
theorem lex_anti {p q p' q' : Int} (h : p' = -p) (h2 : q' = -q) : lex p' q' = - lex p q := by
  subst h h2
  unfold lex
  by_cases hp : p = 0
  · simp [hp]
  · rw [if_pos hp, if_pos (by omega)]
theorem lex_zero {p q : Int} : lex p q = 0 ↔ p = 0 ∧ q = 0 := by
  unfold lex
  by_cases hp : p = 0
  · simp [hp]
  · rw [if_pos hp]
    simp [hp]
theorem cmpB_anti : ∀ a b : List UInt8, Lib.compareBytes b a = - Lib.compareBytes a b
  | [], [] => rfl
  | [], _ :: _ => rfl
  | _ :: _, [] => rfl
  | x :: a, y :: b => by
    rw [cmpB_cons, cmpB_cons]
    exact lex_anti (icmp_anti _ _) (cmpB_anti a b)
theorem cmpB_zero : ∀ {a b : List UInt8}, Lib.compareBytes a b = 0 ↔ a = b
  | [], [] => by simp [Lib.compareBytes]
  | [], _ :: _ => by simp [Lib.compareBytes]
  | _ :: _, [] => by simp [Lib.compareBytes]
  | x :: a, y :: b => by
    rw [cmpB_cons, lex_zero, icmp_zero, cmpB_zero (a := a) (b := b), List.cons.injEq]
    constructor
    · rintro ⟨h1, h2⟩
      exact ⟨UInt8.toNat_inj.1 (by omega), h2⟩
    · rintro ⟨h1, h2⟩
      exact ⟨by rw [h1], h2⟩
theorem cmp_lex (k n : Int) (s : List UInt8) (ao : Option Addr) (c : Nat) (l : List VT) (b : VT) :
    (VT.mk k n s ao c l).cmp b = lex (icmp k b.kd) (if k = 1 then icmp n b.nu else if k = 2 then Lib.compareBytes s b.tx else if k = 3 then cmpL l b.lst else 0) := by
  rw [VT.cmp]
  unfold lex
  by_cases h : k = b.kd
  · rw [if_neg (show ¬ k ≠ b.kd from fun h2 => h2 h), if_neg (show ¬ icmp k b.kd ≠ 0 from fun h2 => h2 (icmp_zero.2 h))]
  · rw [if_pos h, if_pos (show icmp k b.kd ≠ 0 from fun h2 => h (icmp_zero.1 h2))]
theorem cmpL_cons (x y : VT) (l m : List VT) : cmpL (x :: l) (y :: m) = lex (x.cmp y) (cmpL l m) := by
  rw [cmpL]
  rfl
theorem cmpL_nil (m : List VT) : cmpL [] m = icmp 0 m.length := by rw [cmpL]
theorem cmpL_end0 (x : VT) (l : List VT) : cmpL (x :: l) [] = 1 := by rw [cmpL]
theorem cmpL_beg (y : VT) (m : List VT) : cmpL [] (y :: m) = -1 := by
  rw [cmpL, List.length_cons]
  unfold icmp
  rw [if_pos (by omega)]
theorem cmpL_T3 : ∀ (l m n : List VT), (∀ x ∈ l, ∀ b c : VT, T3 (x.cmp b) (b.cmp c) (x.cmp c)) → T3 (cmpL l m) (cmpL m n) (cmpL l n)
  | [], [], n, _ => by
    have h : cmpL [] [] = 0 := by rw [cmpL]; rfl
    rw [h]
    exact ⟨fun _ => rfl, fun h => h, fun h => absurd h (by decide)⟩
  | [], y :: m, [], _ => by
    have h : cmpL [] [] = 0 := by rw [cmpL]; rfl
    rw [h, cmpL_beg, cmpL_end0]
    exact ⟨fun h => absurd h (by decide), fun h => absurd h (by decide), fun _ h => absurd h (by decide)⟩
  | [], y :: m, z :: n, _ => by
    rw [cmpL_beg, cmpL_beg]
    exact ⟨fun h => absurd h (by decide), fun _ => rfl, fun h _ => h⟩
  | x :: l, [], [], _ => by
    have h : cmpL [] [] = 0 := by rw [cmpL]; rfl
    rw [h, cmpL_end0]
    exact ⟨fun h => absurd h (by decide), fun _ => rfl, fun h => absurd h (by decide)⟩
  | x :: l, [], z :: n, _ => by
    rw [cmpL_beg, cmpL_end0]
    exact ⟨fun h => absurd h (by decide), fun h => absurd h (by decide), fun h => absurd h (by decide)⟩
  | x :: l, y :: m, [], _ => by
    rw [cmpL_end0, cmpL_end0]
    exact ⟨fun _ => rfl, fun h => absurd h (by decide), fun _ h => absurd h (by decide)⟩
  | x :: l, y :: m, z :: n, h => by
    rw [cmpL_cons, cmpL_cons, cmpL_cons]
    exact lex_T3 (h x (by simp) y z) fun _ _ => cmpL_T3 l m n fun x hx => h x (by simp [hx])
theorem cmp_T3 : ∀ a b c : VT, T3 (a.cmp b) (b.cmp c) (a.cmp c) := by
  intro a
  induction a using VT.ind with
  | h k n s ao ca l ih =>
    intro b c
    obtain ⟨k2, n2, s2, ao2, c2, l2⟩ := b
    obtain ⟨k3, n3, s3, ao3, c3, l3⟩ := c
    rw [cmp_lex, cmp_lex, cmp_lex]
    simp only [VT.kd, VT.nu, VT.tx, VT.lst]
    refine lex_T3 (icmp_T3 _ _ _) fun h1 h2 => ?_
    have e1 := icmp_zero.1 h1
    subst e1
    by_cases k1 : k = 1
    · simp only [k1, if_true]
      exact icmp_T3 _ _ _
    by_cases k2 : k = 2
    · simp only [k1, k2, if_true, if_false, show ¬ (2 : Int) = 1 by omega]
      exact cmpB_T3 _ _ _
    by_cases k3 : k = 3
    · simp only [k1, k2, k3, if_true, if_false, show ¬ (3 : Int) = 1 by omega, show ¬ (3 : Int) = 2 by omega]
      exact cmpL_T3 _ _ _ fun x hx => ih x hx
    · simp only [k1, k2, k3, if_false]
      exact ⟨fun _ => rfl, fun _ => rfl, fun h => absurd h (by decide)⟩
theorem cmpL_anti : ∀ (l m : List VT), (∀ x ∈ l, ∀ b : VT, b.cmp x = - x.cmp b) → cmpL m l = - cmpL l m
  | [], [], _ => by
    have h : cmpL [] [] = 0 := by rw [cmpL]; rfl
    rw [h]; rfl
  | [], y :: m, _ => by rw [cmpL_beg, cmpL_end0]; rfl
  | x :: l, [], _ => by rw [cmpL_beg, cmpL_end0]
  | x :: l, y :: m, h => by
    rw [cmpL_cons, cmpL_cons]
    exact lex_anti (h x (by simp) y) (cmpL_anti l m fun x hx => h x (by simp [hx]))
theorem cmp_anti : ∀ a b : VT, b.cmp a = - a.cmp b := by
  intro a
  induction a using VT.ind with
  | h k n s ao ca l ih =>
    intro b
    obtain ⟨k2, n2, s2, ao2, c2, l2⟩ := b
    by_cases hk : k = k2
    · subst hk
      rw [cmp_lex, cmp_lex]
      simp only [VT.kd, VT.nu, VT.tx, VT.lst]
      refine lex_anti (icmp_anti _ _) ?_
      by_cases k1 : k = 1
      · simp only [k1, if_true]
        exact icmp_anti _ _
      by_cases k2 : k = 2
      · simp only [k1, k2, if_true, if_false, show ¬ (2 : Int) = 1 by omega]
        exact cmpB_anti _ _
      by_cases k3 : k = 3
      · simp only [k1, k2, k3, if_true, if_false, show ¬ (3 : Int) = 1 by omega, show ¬ (3 : Int) = 2 by omega]
        exact cmpL_anti _ _ fun x hx => ih x hx
      · simp only [k1, k2, k3, if_false]
        rfl
    · have e1 : (VT.mk k n s ao ca l).cmp (VT.mk k2 n2 s2 ao2 c2 l2) = icmp k k2 := by rw [VT.cmp, if_pos (by simpa [VT.kd] using hk)]; rfl
      have e2 : (VT.mk k2 n2 s2 ao2 c2 l2).cmp (VT.mk k n s ao ca l) = icmp k2 k := by rw [VT.cmp, if_pos (by simp only [VT.kd]; omega)]; rfl
      rw [e1, e2]
      exact icmp_anti _ _
theorem cmpL_zero : ∀ (l m : List VT), (∀ x ∈ l, ∀ b : VT, x.cmp b = 0 ↔ x.nz = b.nz) → (cmpL l m = 0 ↔ nzL l = nzL m)
  | [], [], _ => by
    have h : cmpL [] [] = 0 := by rw [cmpL]; rfl
    simp [h]
  | [], y :: m, _ => by rw [cmpL_beg]; simp [nzL]
  | x :: l, [], _ => by rw [cmpL_end0]; simp [nzL]
  | x :: l, y :: m, h => by
    rw [cmpL_cons, lex_zero, nzL, nzL, List.cons.injEq, h x (by simp) y, cmpL_zero l m fun x hx => h x (by simp [hx])]
/-- Values are the same just where they are so but for their places. -/
theorem cmp_zero : ∀ a : VT, a.Kin → ∀ b : VT, a.cmp b = 0 ↔ a.nz = b.nz := by
  intro a
  induction a using VT.ind with
  | h k n s ao ca l ih =>
    intro ha b
    obtain ⟨k2, n2, s2, ao2, c2, l2⟩ := b
    rw [VT.Kin] at ha
    rw [cmp_lex, lex_zero, icmp_zero, VT.nz, VT.nz]
    simp only [VT.kd, VT.nu, VT.tx, VT.lst, VT.mk.injEq, true_and]
    constructor
    · rintro ⟨e, h⟩
      subst e
      rcases ha.1 with rfl | rfl | rfl | rfl
      · simp
      · simp only [if_true, icmp_zero] at h
        simp [h]
      · simp only [if_true, if_false, show ¬ (2 : Int) = 1 by omega, cmpB_zero] at h
        simp [h]
      · simp only [if_true, if_false, show ¬ (3 : Int) = 1 by omega, show ¬ (3 : Int) = 2 by omega] at h
        have := (cmpL_zero l l2 fun x hx b => ih x hx (kinL_mem (ha.2 rfl) x hx) b).1 h
        simp [this]
    · rintro ⟨e, h1, h2, h3⟩
      subst e
      refine ⟨rfl, ?_⟩
      rcases ha.1 with rfl | rfl | rfl | rfl
      · rfl
      · simp only [if_true] at h1
        simp [h1, icmp_zero]
      · simp only [if_true] at h2
        simp [h2, cmpB_zero]
      · simp only [if_true] at h3
        have := (cmpL_zero l l2 fun x hx b => ih x hx (kinL_mem (ha.2 rfl) x hx) b).2 h3
        simp [this]
theorem cmp_self (a : VT) (ha : a.Kin) : a.cmp a = 0 := (cmp_zero a ha a).2 rfl
mutual
/-- The order that the document tells. -/
def VT.rcmp : VT → VT → Int
  | .mk k n s _ _ l, b => if k ≠ b.kd then k - b.kd else if k = 1 then icmp n b.nu else if k = 2 then Lib.compareBytes s b.tx else if k = 3 then rcmpL l b.lst else 0
def rcmpL : List VT → List VT → Int
  | [], m => - (m.length : Int)
  | x :: l, m => match m with
    | [] => (l.length : Int) + 1
    | y :: m => if x.rcmp y ≠ 0 then x.rcmp y else rcmpL l m
end
def Sg (a b : Int) : Prop := (a < 0 ↔ b < 0) ∧ (a = 0 ↔ b = 0)
theorem Sg.pos {a b : Int} (h : Sg a b) : 0 < a ↔ 0 < b := by
  obtain ⟨h1, h2⟩ := h
  omega
theorem rcmpL_sg : ∀ (l m : List VT), (∀ x ∈ l, ∀ b : VT, Sg (x.rcmp b) (x.cmp b)) → Sg (rcmpL l m) (cmpL l m)
  | [], [], _ => by rw [rcmpL, cmpL]; exact ⟨Iff.rfl, Iff.rfl⟩
  | [], y :: m, _ => by
    rw [rcmpL, cmpL_beg, List.length_cons]
    unfold Sg
    omega
  | x :: l, [], _ => by
    rw [rcmpL, cmpL_end0]
    unfold Sg
    omega
  | x :: l, y :: m, h => by
    have h1 := h x (by simp) y
    have h2 := rcmpL_sg l m fun x hx => h x (by simp [hx])
    rw [rcmpL, cmpL_cons]
    unfold lex
    by_cases e : x.rcmp y = 0
    · rw [if_neg (show ¬ x.rcmp y ≠ 0 from fun h3 => h3 e), if_neg (show ¬ x.cmp y ≠ 0 from fun h3 => h3 (h1.2.1 e))]
      exact h2
    · rw [if_pos e, if_pos (fun h => e (h1.2.2 h))]
      exact h1
theorem sg_if {p : Prop} [Decidable p] {a b c d : Int} (h : p → Sg a c) (h2 : ¬ p → Sg b d) : Sg (if p then a else b) (if p then c else d) := by
  by_cases hp : p
  · rw [if_pos hp, if_pos hp]; exact h hp
  · rw [if_neg hp, if_neg hp]; exact h2 hp
theorem Sg.refl (a : Int) : Sg a a := ⟨Iff.rfl, Iff.rfl⟩
theorem rcmp_sg : ∀ a b : VT, Sg (a.rcmp b) (a.cmp b) := by
  intro a
  induction a using VT.ind with
  | h k n s ao ca l ih =>
    intro b
    rw [VT.rcmp, VT.cmp]
    refine sg_if (fun hk => ?_) fun hk => sg_if (fun _ => Sg.refl _) fun _ => sg_if (fun _ => Sg.refl _) fun _ => sg_if (fun _ => rcmpL_sg _ _ fun x hx => ih x hx) fun _ => Sg.refl _
    have h1 := @icmp_neg k b.kd
    have h2 := @icmp_zero k b.kd
    unfold Sg
    omega
end Go.Proofs.YtnfobnnbeefeeaaGreatDoor.Wi
/- The reference's Compare. -/
namespace Go.Proofs.YtnfobnnbeefeeaaGreatDoor.Wi
open Go Go.RowKit
set_option linter.unusedVariables false
set_option linter.unusedSimpArgs false
def RcAny (x : VT) : Prop := ∀ (y : VT) (N : Nat) (w : World), x.Kin → y.Kin → x.At N w → y.At N w → N ≤ w.heap.size → Calls Tryz.prog 86 #[.agg x.cells.toArray, .agg y.cells.toArray] w fun e w' => e = .returned (.int .i64 (x.rcmp y)) ∧ Below w.heap.size w w'
def rcRel (w w2 : World) (l m : List VT) (i : Value) (wr : World) : Prop := ∃ j : Nat, i = .int .i64 (j : Int) ∧ j ≤ l.length ∧ j ≤ m.length ∧ rcmpL l m = rcmpL (l.drop j) (m.drop j) ∧ Below w2.heap.size w2 wr
theorem rcmpL_end {l m : List VT} {j : Nat} (hl : j ≤ l.length) (hm : j ≤ m.length) (h : j = l.length ∨ j = m.length) : rcmpL (l.drop j) (m.drop j) = (l.length : Int) - (m.length : Int) := by
  rcases h with h | h
  · rw [List.drop_of_length_le (by omega : l.length ≤ j), rcmpL, List.length_drop]
    omega
  · rw [List.drop_of_length_le (by omega : m.length ≤ j)]
    cases hd : l.drop j with
    | nil =>
      have : l.length = j := by have := congrArg List.length hd; simp at this; omega
      rw [rcmpL, this, h]
      simp
    | cons x q =>
      have := congrArg List.length hd
      rw [List.length_drop, List.length_cons] at this
      rw [rcmpL]
      omega
theorem rcmpL_step {l m : List VT} {j : Nat} {x y : VT} (hx : l[j]? = some x) (hy : m[j]? = some y) : rcmpL (l.drop j) (m.drop j) = if x.rcmp y ≠ 0 then x.rcmp y else rcmpL (l.drop (j + 1)) (m.drop (j + 1)) := by
  obtain ⟨hjl, hx⟩ := List.getElem?_eq_some_iff.1 hx
  obtain ⟨hjm, hy⟩ := List.getElem?_eq_some_iff.1 hy
  rw [List.drop_eq_getElem_cons hjl, List.drop_eq_getElem_cons hjm, hx, hy, rcmpL]
theorem less_cmp : ∀ a b : List UInt8, Lib.compareBytes a b = if Op.bytesLess a b = true then -1 else if a = b then 0 else 1
  | [], [] => by simp [Lib.compareBytes, Op.bytesLess]
  | [], y :: b => by simp [Lib.compareBytes, Op.bytesLess]
  | x :: a, [] => by simp [Lib.compareBytes, Op.bytesLess]
  | x :: a, y :: b => by
    have ih := less_cmp a b
    rw [cmpB_cons]
    unfold lex icmp
    rw [Op.bytesLess]
    simp only [UInt8.lt_iff_toNat_lt, Int.ofNat_lt, List.cons.injEq, ← UInt8.toNat_inj]
    by_cases h : x.toNat < y.toNat
    · simp [h]
    · by_cases h2 : y.toNat < x.toNat
      · have : ¬ x.toNat = y.toNat := by omega
        have hxy : ¬ x = y := fun e => this (by rw [e])
        simp [h, h2, this, hxy]
      · have : x.toNat = y.toNat := by omega
        have hxy : x = y := UInt8.toNat_inj.1 this
        simp [h, h2, this, hxy, ih]
set_option maxHeartbeats 4000000 in
set_option maxRecDepth 100000 in
theorem rcompare_any : ∀ v : VT, RcAny v := by
  intro v
  induction v using VT.ind with
  | h k n s ao c l ih =>
    intro y N w hvk hyk hv hy hN
    obtain ⟨k2, n2, s2, ao2, c2, m⟩ := y
    have hll := hv.fit.2.2.2
    have hmm := hy.fit.2.2.2
    rw [VT.Kin] at hvk hyk
    have kb : 0 ≤ k ∧ k ≤ 3 := by omega
    have kb2 : 0 ≤ k2 ∧ k2 ≤ 3 := by omega
    have IH := Lib.hid ih
    have KV := Lib.hid hvk.2
    have KY := Lib.hid hyk.2
    have K0 := Lib.hid hvk.1
    obtain ⟨w1, hw1⟩ : ∃ w1, w1 = w.alloc (.cells (VT.mk k n s ao c l).cells.toArray 26) := ⟨_, rfl⟩
    obtain ⟨g, hg⟩ : ∃ g, g = w.heap.size := ⟨_, rfl⟩
    obtain ⟨w2, hw2⟩ : ∃ w2, w2 = w1.alloc (.cells (VT.mk k2 n2 s2 ao2 c2 m).cells.toArray 26) := ⟨_, rfl⟩
    obtain ⟨g2, hg2⟩ : ∃ g, g = w.heap.size + 1 := ⟨_, rfl⟩
    have hg2' : g2 = w1.heap.size := by rw [hg2, hw1]; simp
    have hb1 : Below w.heap.size w w1 := by rw [hw1]; exact (Below.refl _ _).alloc (Nat.le_refl _) _
    have nk : w1.heap[g]? = some (.cells (VT.mk k n s ao c l).cells.toArray 26 (0, 0)) := by rw [hw1, hg]; exact heap_alloc_new _ _
    have hb2 : Below w1.heap.size w1 w2 := by rw [hw2]; exact (Below.refl _ _).alloc (Nat.le_refl _) _
    have nk2 : w2.heap[g2]? = some (.cells (VT.mk k2 n2 s2 ao2 c2 m).cells.toArray 26 (0, 0)) := by rw [hw2, hg2']; exact heap_alloc_new _ _
    have nk1 := (hb2.block g (lt_of_rowW nk)).trans nk
    have hb : Below w.heap.size w w2 := hb1.trans (hb2.mono hb1.size)
    have a0 : w2.cell? ⟨g, 0, none⟩ = some (.int .i64 k) := by rw [cell_of_rowW w2 g 0 _ _ _ nk1]; rfl
    have a1 : w2.cell? ⟨g, 1, none⟩ = some (.int .i64 n) := by rw [cell_of_rowW w2 g 1 _ _ _ nk1]; rfl
    have a2 : w2.cell? ⟨g, 2, none⟩ = some (.string (str s)) := by rw [cell_of_rowW w2 g 2 _ _ _ nk1]; rfl
    have a3 : w2.cell? ⟨g, 3, none⟩ = some (.slice ao l.length c) := by rw [cell_of_rowW w2 g 3 _ _ _ nk1]; rfl
    have b0 : w2.cell? ⟨g2, 0, none⟩ = some (.int .i64 k2) := by rw [cell_of_rowW w2 g2 0 _ _ _ nk2]; rfl
    have b1 : w2.cell? ⟨g2, 1, none⟩ = some (.int .i64 n2) := by rw [cell_of_rowW w2 g2 1 _ _ _ nk2]; rfl
    have b2 : w2.cell? ⟨g2, 2, none⟩ = some (.string (str s2)) := by rw [cell_of_rowW w2 g2 2 _ _ _ nk2]; rfl
    have b3 : w2.cell? ⟨g2, 3, none⟩ = some (.slice ao2 m.length c2) := by rw [cell_of_rowW w2 g2 3 _ _ _ nk2]; rfl
    have A3 := Lib.hid (fun (W : World) (h : Below w2.heap.size w2 W) => (World.cell?_of_block (a := ⟨g, 3, none⟩) (h.block g (lt_of_rowW nk1))).trans a3)
    have B3 := Lib.hid (fun (W : World) (h : Below w2.heap.size w2 W) => (World.cell?_of_block (a := ⟨g2, 3, none⟩) (h.block g2 (lt_of_rowW nk2))).trans b3)
    have HV := Lib.hid (hv.below (hb.mono hN))
    have HY := Lib.hid (hy.below (hb.mono hN))
    have hN2 := Nat.le_trans hN hb.size
    have hc : (VT.mk k n s ao c l).rcmp (VT.mk k2 n2 s2 ao2 c2 m) = if k ≠ k2 then k - k2 else if k = 1 then icmp n n2 else if k = 2 then Lib.compareBytes s s2 else if k = 3 then rcmpL l m else 0 := by rw [VT.rcmp]; rfl
    obtain ⟨R, hR⟩ : ∃ R, R = (VT.mk k n s ao c l).rcmp (VT.mk k2 n2 s2 ao2 c2 m) := ⟨_, rfl⟩
    rw [← hR] at hc ⊢
    have HC := Lib.hid hc
    have SZ := Lib.hid Tryz.valSize
    obtain ⟨S, hS⟩ : ∃ S, S = str s := ⟨_, rfl⟩
    obtain ⟨S2, hS2⟩ : ∃ S, S = str s2 := ⟨_, rfl⟩
    have hw1b := show w1 = w.alloc (.cells #[.int .i64 k, .int .i64 n, .string (str s), .slice ao l.length c] 26) from hw1
    have hw2b := show w2 = w1.alloc (.cells #[.int .i64 k2, .int .i64 n2, .string (str s2), .slice ao2 m.length c2] 26) from hw2
    rw [← hS] at a2 hw1b
    rw [← hS2] at b2 hw2b
    show Calls Tryz.prog 86 #[.agg #[.int .i64 k, .int .i64 n, .string (str s), .slice ao l.length c], .agg #[.int .i64 k2, .int .i64 n2, .string (str s2), .slice ao2 m.length c2]] w _
    rw [← hS, ← hS2]
    have HW1 := Lib.hid hw1b
    have HW2 := Lib.hid hw2b
    have HS := Lib.hid hS
    have HS2 := Lib.hid hS2
    clear hw1b hw2b
    have HB := Lib.hid hb
    have HG := Lib.hid hg
    have HG2 := Lib.hid hg2
    clear hw1 hg hw2 hg2 hg2' hb1 nk hb2 nk2 nk1 hb hc hR hS hS2 hv hy ih hvk hyk
    go_enter Tryz.func86, Tryz.ntmps86
    go_upto_region 1 with fail
    rw [← HW1.out, ← HW2.out, ← HG2.out, ← HG.out]
    by_cases e0 : k = k2
    · have HC2 := Lib.hid (HC.out.trans (if_neg (not_not_intro e0)))
      subst e0
      by_cases e1 : k = 1
      · have hR := HC2.out.trans (if_pos e1)
        subst e1
        unfold icmp at hR
        by_cases h1 : n < n2
        · rw [if_pos h1] at hR
          subst hR
          go_wp2_with fail
          go_ret
          exact ⟨rfl, HB.out⟩
        rw [if_neg h1] at hR
        by_cases h2 : n2 < n
        · rw [if_pos h2] at hR
          subst hR
          go_wp2_with fail
          go_ret
          exact ⟨rfl, HB.out⟩
        rw [if_neg h2] at hR
        subst hR
        go_wp2_with fail
        go_ret
        exact ⟨rfl, HB.out⟩
      have HC3 := Lib.hid (HC2.out.trans (if_neg e1))
      by_cases e2 : k = 2
      · have hR := HC3.out.trans (if_pos e2)
        have HR := Lib.hid hR
        subst e2
        clear hR
        have hL : Op.bytesLess S.toList S2.toList = Op.bytesLess s s2 := by rw [HS.out, HS2.out, ByteArray.toList_eq, ByteArray.toList_eq]; rfl
        have hE : (S.toList == S2.toList) = decide (s = s2) := by rw [HS.out, HS2.out]; exact beq_strV s s2
        have HR2 := Lib.hid (HR.out.trans (less_cmp s s2))
        by_cases h1 : Op.bytesLess s s2 = true
        · have hR := HR2.out.trans (if_pos h1)
          subst hR
          rw [h1] at hL
          clear h1 hE
          go_wp2_with fail
          go_ret
          exact ⟨rfl, HB.out⟩
        have HR3 := Lib.hid (HR2.out.trans (if_neg h1))
        have h1' : Op.bytesLess s s2 = false := by simpa using h1
        rw [h1'] at hL
        by_cases h2 : s = s2
        · have hR := HR3.out.trans (if_pos h2)
          subst hR
          rw [decide_eq_true h2] at hE
          clear h1 h1' h2
          go_wp2_with fail
          go_ret
          exact ⟨rfl, HB.out⟩
        · have hR := HR3.out.trans (if_neg h2)
          subst hR
          rw [decide_eq_false h2] at hE
          clear h1 h1' h2
          go_wp2_with fail
          go_ret
          exact ⟨rfl, HB.out⟩
      have HC4 := Lib.hid (HC3.out.trans (if_neg e2))
      by_cases e3 : k = 3
      · have hR := HC4.out.trans (if_pos e3)
        have HR := Lib.hid hR
        subst e3
        clear hR
        have KV3 := Lib.hid (KV.out rfl)
        have KY3 := Lib.hid (KY.out (by omega))
        clear KV KY HC HC2 HC3 HC4
        have e2f : ¬ (3 : Int) = 2 := by omega
        go_wp2_with fail
        go_loopw [5] (fun i wr => rcRel w w2 l m i wr) (fun i _ => l.length - (intOf i).toNat)
        case atStart => exact ⟨0, rfl, Nat.zero_le _, Nat.zero_le _, rfl, Below.refl _ _⟩
        case round =>
          obtain ⟨wq, rfl⟩ : ∃ wq : World, wq = wr := ⟨_, rfl⟩
          obtain ⟨j, rfl, hjl, hjm, hd, hbq⟩ := hrel
          have A3q := A3.out wq hbq
          have B3q := B3.out wq hbq
          have HBq := Lib.hid hbq
          have HD := Lib.hid hd
          clear hbq hd
          have q0 : (0 : Int) ≤ (j : Int) := by omega
          by_cases hjz : j < l.length ∧ j < m.length
          · have q2 : (j : Int) < (l.length : Int) := by omega
            have q3 : (j : Int) < (m.length : Int) := by omega
            obtain ⟨x, hx⟩ : ∃ x, l[j]? = some x := ⟨_, List.getElem?_eq_getElem (by omega)⟩
            obtain ⟨y, hy⟩ : ∃ y, m[j]? = some y := ⟨_, List.getElem?_eq_getElem (by omega)⟩
            obtain ⟨hxv, ad, rfl, had, hxc⟩ := HV.out.elem hx
            obtain ⟨hyv, ad2, rfl, had2, hyc⟩ := HY.out.elem hy
            have hst := rcmpL_step hx hy
            have up : ∀ W, Below wq.heap.size wq W → Below w2.heap.size w2 W := fun W h => HBq.out.trans (h.mono HBq.out.size)
            have KX := Lib.hid (fun W (h : Below wq.heap.size wq W) => hxc W (fun q hq => (up W h).block q (by omega)))
            have KYc := Lib.hid (fun W (h : Below wq.heap.size wq W) => hyc W (fun q hq => (up W h).block q (by omega)))
            have hxk := kinL_mem KV3.out x (List.mem_of_getElem? hx)
            have hyk := kinL_mem KY3.out y (List.mem_of_getElem? hy)
            have CX := Lib.hid (fun W (h : Below wq.heap.size wq W) => IH.out x (List.mem_of_getElem? hx) y N W hxk hyk (hxv.below ((up W h).mono hN2)) (hyv.below ((up W h).mono hN2)) (Nat.le_trans hN2 (up W h).size))
            obtain ⟨r, hr⟩ : ∃ r, r = x.rcmp y := ⟨_, rfl⟩
            rw [← hr] at hst
            simp only [← hr] at CX
            have HST := Lib.hid hst
            have UP := Lib.hid up
            clear hxv hxc hyv hyc hst up hr had had2 hx hy hxk hyk
            go_upto_region 20 with fail
            refine wp_region_quiet_in (fun w' => Below wq.heap.size wq w') (by kernel_rfl) (by kernel_rfl) (below_drewG (Below.refl wq.heap.size wq) 1) ?_
            refine wpQuiet_runG (v := (.pointer (some ⟨g, 3, none⟩))) (by kernel_rfl) (fun w' hC => by go_simp) ?_
            simp only [Act.put, List.setIfInBounds_toArray, List.set_cons_zero, List.set_cons_succ, List.getElem_toArray, List.getElem_cons_zero, List.getElem_cons_succ]
            refine wpQuiet_runG (v := (.slice (some ad) l.length c)) (by kernel_rfl) (fun w' hC => by have h3 := A3.out w' (UP.out w' hC); go_simp) ?_
            simp only [Act.put, List.setIfInBounds_toArray, List.set_cons_zero, List.set_cons_succ, List.getElem_toArray, List.getElem_cons_zero, List.getElem_cons_succ]
            refine wpQuiet_runG (v := (.int .i64 (j : Int))) (by kernel_rfl) (fun w' hC => by rfl) ?_
            simp only [Act.put, List.setIfInBounds_toArray, List.set_cons_zero, List.set_cons_succ, List.getElem_toArray, List.getElem_cons_zero, List.getElem_cons_succ]
            refine wpQuiet_runG (v := (.pointer (some (ad.add (j * 4))))) (by kernel_rfl) (fun w' hC => by go_simp) ?_
            simp only [Act.put, List.setIfInBounds_toArray, List.set_cons_zero, List.set_cons_succ, List.getElem_toArray, List.getElem_cons_zero, List.getElem_cons_succ]
            refine wpQuiet_loadG (by kernel_rfl) 26 (.tmp 63) rfl (ad.add (j * 4)) rfl x.cells _ (fun w' hC => KX.out w' hC) Tryz.underlying26 rfl (SZ.out x) ?_
            simp only [Act.put, List.setIfInBounds_toArray, List.set_cons_zero, List.set_cons_succ, List.getElem_toArray, List.getElem_cons_zero, List.getElem_cons_succ]
            refine wpQuiet_runG (v := (.pointer (some ⟨g2, 3, none⟩))) (by kernel_rfl) (fun w' hC => by go_simp) ?_
            simp only [Act.put, List.setIfInBounds_toArray, List.set_cons_zero, List.set_cons_succ, List.getElem_toArray, List.getElem_cons_zero, List.getElem_cons_succ]
            refine wpQuiet_runG (v := (.slice (some ad2) m.length c2)) (by kernel_rfl) (fun w' hC => by have h3 := B3.out w' (UP.out w' hC); go_simp) ?_
            simp only [Act.put, List.setIfInBounds_toArray, List.set_cons_zero, List.set_cons_succ, List.getElem_toArray, List.getElem_cons_zero, List.getElem_cons_succ]
            refine wpQuiet_runG (v := (.int .i64 (j : Int))) (by kernel_rfl) (fun w' hC => by rfl) ?_
            simp only [Act.put, List.setIfInBounds_toArray, List.set_cons_zero, List.set_cons_succ, List.getElem_toArray, List.getElem_cons_zero, List.getElem_cons_succ]
            refine wpQuiet_runG (v := (.pointer (some (ad2.add (j * 4))))) (by kernel_rfl) (fun w' hC => by go_simp) ?_
            simp only [Act.put, List.setIfInBounds_toArray, List.set_cons_zero, List.set_cons_succ, List.getElem_toArray, List.getElem_cons_zero, List.getElem_cons_succ]
            refine wpQuiet_loadG (by kernel_rfl) 26 (.tmp 68) rfl (ad2.add (j * 4)) rfl y.cells _ (fun w' hC => KYc.out w' hC) Tryz.underlying26 rfl (SZ.out y) ?_
            simp only [Act.put, List.setIfInBounds_toArray, List.set_cons_zero, List.set_cons_succ, List.getElem_toArray, List.getElem_cons_zero, List.getElem_cons_succ]
            refine wpQuiet_callG (f := 86) (xs := #[.tmp 64, .tmp 69]) #[.agg x.cells.toArray, .agg y.cells.toArray] (.int .i64 r) (by kernel_rfl) rfl Tryz.func86 (by kernel_rfl) (by kernel_rfl) (by simp [Act.eval]) (fun W hW => (CX.out W hW).mono fun e w' h => ⟨h.1, Below.trans hW (h.2.mono hW.size)⟩) ?_
            simp only [Act.put, List.setIfInBounds_toArray, List.set_cons_zero, List.set_cons_succ, List.getElem_toArray, List.getElem_cons_zero, List.getElem_cons_succ]
            refine wpQuiet_runG (v := (.int .i64 r)) (by kernel_rfl) (fun w' hC => by rfl) ?_
            simp only [Act.put, List.setIfInBounds_toArray, List.set_cons_zero, List.set_cons_succ, List.getElem_toArray, List.getElem_cons_zero, List.getElem_cons_succ]
            refine wpQuiet_nil ?_
            intro w3 hC3
            have HB3 := Lib.hid (UP.out w3 hC3)
            clear hC3
            by_cases hr0 : r = 0
            · have hst := HST.out
              rw [if_neg (not_not_intro hr0)] at hst
              have RL := Lib.hid (show rcRel w w2 l m (.int .i64 ((j + 1 : Nat) : Int)) w3 from ⟨j + 1, rfl, by omega, by omega, HD.out.trans hst, HB3.out⟩)
              subst hr0
              clear hst
              go_wp2_with fail
              exact ⟨RL.out, by simp [intOf]; omega⟩
            · have hR : R = r := by rw [HR.out, HD.out, HST.out, if_pos hr0]
              subst hR
              have HB4 := Lib.hid (HB.out.trans (HB3.out.mono HB.out.size))
              go_wp2_with fail
              go_ret
              exact ⟨rfl, HB4.out⟩
          · have hR : R = (l.length : Int) - (m.length : Int) := by rw [HR.out, HD.out, rcmpL_end hjl hjm (by omega)]
            subst hR
            have HB4 := Lib.hid (HB.out.trans (HBq.out.mono HB.out.size))
            clear HR
            by_cases q2 : (j : Int) < (l.length : Int)
            · have q3 : ¬ (j : Int) < (m.length : Int) := by omega
              go_wp2_with fail
              go_ret
              exact ⟨rfl, HB4.out⟩
            · go_wp2_with fail
              go_ret
              exact ⟨rfl, HB4.out⟩
      · have hR := HC4.out.trans (if_neg e3)
        subst hR
        go_wp2_with fail
        go_ret
        exact ⟨rfl, HB.out⟩
    · have hR := HC.out.trans (if_pos e0)
      subst hR
      go_wp2_with fail
      go_ret
      exact ⟨rfl, HB.out⟩
end Go.Proofs.YtnfobnnbeefeeaaGreatDoor.Wi
