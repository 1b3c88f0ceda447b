/- Events and their bytes: the model. -/
import Derived.Test.YtnfobnnbeefeeaaGreatDoorGC
import Derived.Test.YtnfobnnbeefeeaaGreatDoorGE
import Derived.Test.YtnfobnnbeefeeaaGreatDoorGD
namespace Go.Proofs.YtnfobnnbeefeeaaGreatDoor.Wi
open Go Go.RowKit
set_option linter.unusedVariables false
set_option linter.unusedSimpArgs false
/-- An event. -/
structure Ev where
  id : Int
  time : Int
  kind : Int
  a : Int
  b : Int
  name : List UInt8
  text : List UInt8
  val : VT
def eKn (k : Int) : Bool := decide (1 ≤ k) && decide (k ≤ 21)
def eA (k : Int) : Bool := k == 1 || k == 3 || k == 4 || (decide (7 ≤ k) && decide (k ≤ 13))
def eB (k : Int) : Bool := k == 1 || k == 2 || k == 3 || k == 4 || k == 5 || k == 6 || k == 7 || k == 11 || k == 21
def eN (k : Int) : Bool := k == 1 || k == 6 || k == 7 || k == 9 || k == 14 || k == 17 || k == 19
def eT (k : Int) : Bool := k == 1
def eV (k : Int) : Bool := k == 1 || k == 7 || k == 8 || k == 14 || k == 16 || k == 21
def eOk (n : Int) (has : Bool) : Bool := n == 0 || (decide (0 < n) && has)
def Ev.rng (x : Ev) : Bool := decide (1 ≤ x.id) && decide (x.id ≤ 1048576) && decide (0 ≤ x.time) && decide (x.time ≤ 4611686018427387903) && eOk x.a (eA x.kind) && eOk x.b (eB x.kind)
/-- What Check says of it. -/
def Ev.vE (x : Ev) : Int :=
  if eKn x.kind = false then 9 else if x.rng = false then 1 else if 64 < x.name.length ∨ 128 < x.text.length then 2
  else if (x.name ≠ [] ∧ eN x.kind = false) ∨ (x.text ≠ [] ∧ eT x.kind = false) ∨ (x.val.kd ≠ 0 ∧ eV x.kind = false) then 8 else x.val.vE
def Ev.nz (x : Ev) : Ev := { x with val := x.val.nz }
def oI (c : Bool) (l : List UInt8) : List UInt8 := if c then l else []
/-- Its bytes. -/
def Ev.eb (x : Ev) : List UInt8 :=
  UInt8.ofNat x.kind.toNat :: (enc x.id.toNat ++ (enc x.time.toNat ++ (oI (eA x.kind) (enc x.a.toNat) ++ (oI (eB x.kind) (enc x.b.toNat) ++ (oI (eN x.kind) (enc x.name.length ++ x.name) ++ (oI (eT x.kind) (enc x.text.length ++ x.text) ++ oI (eV x.kind) x.val.vb))))))
def rnI (c : Bool) (xs : List UInt8) (k : Nat) (e : Int) (most : Nat) : Nat × Nat × Int := if c then rn xs k e most else (0, k, e)
def rtI (c : Bool) (xs : List UInt8) (k : Nat) (e : Int) : List UInt8 × Nat × Int := if c then rt xs k e else ([], k, e)
def rdI (c : Bool) (xs : List UInt8) (k : Nat) (e : Int) : VT × Nat × Int := if c then rdV xs k e else (zV, k, e)
def zE : Ev := ⟨0, 0, 0, 0, 0, [], [], zV⟩
/-- What is read of bytes, from a place on. -/
def evR (xs : List UInt8) (k : Nat) (e : Int) : Ev × Nat × Int :=
  let x0 := rb xs k e
  let kd : Int := (x0.1.toNat : Int)
  let x1 := rn xs x0.2.1 (fe x0.2.2 (if eKn kd then 0 else 9)) 1048576
  let x2 := rn xs x1.2.1 x1.2.2 4611686018427387903
  let x3 := rnI (eA kd) xs x2.2.1 x2.2.2 9223372036854775807
  let x4 := rnI (eB kd) xs x3.2.1 x3.2.2 9223372036854775807
  let x5 := rtI (eN kd) xs x4.2.1 x4.2.2
  let x6 := rtI (eT kd) xs x5.2.1 x5.2.2
  let x7 := rdI (eV kd) xs x6.2.1 x6.2.2
  let x : Ev := ⟨(x1.1 : Int), (x2.1 : Int), kd, (x3.1 : Int), (x4.1 : Int), x5.1, x6.1, x7.1⟩
  let e9 := fe x7.2.2 x.vE
  (if e9 = 0 then x else zE, x7.2.1, e9)
theorem eOk_nat {n : Int} {c : Bool} (h : eOk n c = true) : 0 ≤ n ∧ (c = false → n = 0) := by
  unfold eOk at h
  cases c
  · have h : n = 0 := by simpa using h
    exact ⟨by omega, fun _ => h⟩
  · have h : n = 0 ∨ 0 < n := by simpa using h
    exact ⟨by omega, fun e => by cases e⟩
structure Ev.Fits (x : Ev) : Prop where
  kn : 1 ≤ x.kind ∧ x.kind ≤ 21
  id : 1 ≤ x.id ∧ x.id ≤ 1048576
  time : 0 ≤ x.time ∧ x.time ≤ 4611686018427387903
  a : 0 ≤ x.a ∧ (eA x.kind = false → x.a = 0)
  b : 0 ≤ x.b ∧ (eB x.kind = false → x.b = 0)
  name : x.name.length ≤ 64 ∧ (eN x.kind = false → x.name = [])
  text : x.text.length ≤ 128 ∧ (eT x.kind = false → x.text = [])
  val : x.val.vE = 0 ∧ (eV x.kind = false → x.val.nz = zV)
theorem nz_head {v : VT} (h : v.kd = 0) : v.nz = zV := by
  obtain ⟨k, n, s, ao, c, l⟩ := v
  have h : k = 0 := h
  subst h
  rw [VT.nz]
  simp [zV]
theorem Ev.fits {x : Ev} (h : x.vE = 0) : x.Fits := by
  unfold Ev.vE at h
  by_cases h1 : eKn x.kind = false
  · rw [if_pos h1] at h; cases h
  rw [if_neg h1] at h
  by_cases h2 : x.rng = false
  · rw [if_pos h2] at h; cases h
  rw [if_neg h2] at h
  by_cases h3 : 64 < x.name.length ∨ 128 < x.text.length
  · rw [if_pos h3] at h; cases h
  rw [if_neg h3] at h
  split at h
  · cases h
  rename_i h4
  have k1 : 1 ≤ x.kind ∧ x.kind ≤ 21 := by simpa [eKn] using h1
  have r1 : ((((1 ≤ x.id ∧ x.id ≤ 1048576) ∧ 0 ≤ x.time) ∧ x.time ≤ 4611686018427387903) ∧ eOk x.a (eA x.kind) = true) ∧ eOk x.b (eB x.kind) = true := by
    have : x.rng = true := by cases hr : x.rng <;> simp_all
    simpa only [Ev.rng, Bool.and_eq_true, decide_eq_true_eq] using this
  obtain ⟨⟨⟨⟨i1, t1⟩, t2⟩, a1⟩, b1⟩ := r1
  refine ⟨k1, i1, ⟨t1, t2⟩, eOk_nat a1, eOk_nat b1, ⟨by omega, fun hn => ?_⟩, ⟨by omega, fun hn => ?_⟩, h, fun hn => ?_⟩
  · rcases Decidable.em (x.name = []) with e | e
    · exact e
    · exact absurd (.inl ⟨e, hn⟩) h4
  · rcases Decidable.em (x.text = []) with e | e
    · exact e
    · exact absurd (.inr (.inl ⟨e, hn⟩)) h4
  · by_cases e : x.val.kd = 0
    · exact nz_head e
    · exact absurd (.inr (.inr ⟨e, hn⟩)) h4
end Go.Proofs.YtnfobnnbeefeeaaGreatDoor.Wi
/- What is written of an event is read so. -/
namespace Go.Proofs.YtnfobnnbeefeeaaGreatDoor.Wi
open Go Go.RowKit
set_option linter.unusedVariables false
set_option linter.unusedSimpArgs false
structure Ev.Num (x : Ev) : Prop where
  a : x.a ≤ 9223372036854775807
  b : x.b ≤ 9223372036854775807
  val : x.val.Num
theorem nz_kdE (v : VT) : v.nz.kd = v.kd := by cases v; rw [VT.nz]; rfl
theorem nz_vEE (v : VT) : v.nz.vE = v.vE := by unfold VT.vE; rw [nz_chk, nz_vb]
theorem Ev.nz_vE (x : Ev) : x.nz.vE = x.vE := by
  unfold Ev.vE Ev.nz Ev.rng
  dsimp only
  rw [nz_kdE, nz_vEE]
theorem Ev.nz_eb (x : Ev) : x.nz.eb = x.eb := by
  unfold Ev.eb Ev.nz
  dsimp only
  rw [nz_vb]
theorem u8_kd {k : Int} (h : 1 ≤ k ∧ k ≤ 21) : (((UInt8.ofNat k.toNat).toNat : Nat) : Int) = k := by
  have : k.toNat < 256 := by omega
  simp
  omega
theorem oI_len {c : Bool} {l : List UInt8} : (oI c l).length = if c then l.length else 0 := by cases c <;> rfl
theorem dnE {xs a r : List UInt8} {k : Nat} (h : xs.drop k = a ++ r) : xs.drop (k + a.length) = r := by rw [← List.drop_drop, h, List.drop_left' rfl]
theorem rnI_fwd {c : Bool} {xs rest : List UInt8} {k m most : Nat} (hd : xs.drop k = oI c (enc m) ++ rest) (hm : m < 18446744073709551616) (hmost : m ≤ most) (h0 : c = false → m = 0) : rnI c xs k 0 most = (m, k + (oI c (enc m)).length, 0) ∧ xs.drop (k + (oI c (enc m)).length) = rest := by
  refine ⟨?_, by rw [← List.drop_drop, hd, List.drop_left' rfl]⟩
  cases c with
  | false => rw [h0 rfl]; rfl
  | true => exact rn_fwd hd hm hmost
theorem rtI_fwd {c : Bool} {xs s rest : List UInt8} {k : Nat} (hd : xs.drop k = oI c (enc s.length ++ s) ++ rest) (hs : s.length ≤ 4096) (h0 : c = false → s = []) : rtI c xs k 0 = (s, k + (oI c (enc s.length ++ s)).length, 0) ∧ xs.drop (k + (oI c (enc s.length ++ s)).length) = rest := by
  refine ⟨?_, by rw [← List.drop_drop, hd, List.drop_left' rfl]⟩
  cases c with
  | false => rw [h0 rfl]; rfl
  | true =>
    have hd' : xs.drop k = enc s.length ++ (s ++ rest) := by rw [hd]; show (enc s.length ++ s) ++ rest = _; rw [List.append_assoc]
    show rt xs k 0 = _
    rw [rt_fwd hd' hs, show oI true (enc s.length ++ s) = enc s.length ++ s from rfl, List.length_append, Nat.add_assoc]
theorem rdI_fwd {c : Bool} {xs rest : List UInt8} {k : Nat} {v : VT} (hd : xs.drop k = oI c v.vb ++ rest) (hN : v.Num) (hv : v.vE = 0) (h0 : c = false → v.nz = zV) : rdI c xs k 0 = (v.nz, k + (oI c v.vb).length, 0) := by
  cases c with
  | false => rw [h0 rfl]; rfl
  | true => exact rdV_fwd hN hv hd
/-- What is written is read so. -/
theorem evR_fwd {x : Ev} {xs rest : List UInt8} {k : Nat} (hN : x.Num) (hv : x.vE = 0) (hx : xs.drop k = x.eb ++ rest) : evR xs k 0 = (x.nz, k + x.eb.length, 0) := by
  have F := Ev.fits hv
  have hk := F.kn; have hi := F.id; have ht := F.time; have ha := F.a; have hb := F.b; have ma := hN.a; have mb := hN.b
  unfold Ev.eb at hx
  rw [List.cons_append] at hx
  obtain ⟨h1, h2, h3⟩ := rb_cons hx
  simp only [List.append_assoc] at h2
  have e1 := rn_fwd (most := 1048576) h2 (by omega) (by omega)
  have d1 := dnE h2
  have e2 := rn_fwd (most := 4611686018427387903) d1 (by omega) (by omega)
  have d2 := dnE d1
  obtain ⟨e3, d3⟩ := rnI_fwd (most := 9223372036854775807) d2 (by omega) (by omega) (fun h => by have := ha.2 h; omega)
  obtain ⟨e4, d4⟩ := rnI_fwd (most := 9223372036854775807) d3 (by omega) (by omega) (fun h => by have := hb.2 h; omega)
  obtain ⟨e5, d5⟩ := rtI_fwd d4 (by have := F.name.1; omega) F.name.2
  obtain ⟨e6, d6⟩ := rtI_fwd d5 (by have := F.text.1; omega) F.text.2
  have e7 := rdI_fwd d6 hN.val F.val.1 F.val.2
  have kb := u8_kd hk
  have hkn : eKn x.kind = true := by simp [eKn, hk]
  unfold evR
  dsimp only
  rw [h1]
  dsimp only
  rw [kb, hkn, if_pos rfl, fe_no, e1]
  dsimp only
  rw [e2]
  dsimp only
  rw [e3]
  dsimp only
  rw [e4]
  dsimp only
  rw [e5]
  dsimp only
  rw [e6]
  dsimp only
  rw [e7]
  dsimp only
  have c1 : ((x.id.toNat : Nat) : Int) = x.id := by omega
  have c2 : ((x.time.toNat : Nat) : Int) = x.time := by omega
  have c3 : ((x.a.toNat : Nat) : Int) = x.a := by omega
  have c4 : ((x.b.toNat : Nat) : Int) = x.b := by omega
  rw [c1, c2, c3, c4, fe_no, show (⟨x.id, x.time, x.kind, x.a, x.b, x.name, x.text, x.val.nz⟩ : Ev) = x.nz from rfl, Ev.nz_vE, hv, if_pos rfl]
  unfold Ev.eb
  simp only [List.length_cons, List.length_append]
  congr 2
  omega
end Go.Proofs.YtnfobnnbeefeeaaGreatDoor.Wi
/- What is read as an event is what is written of it. -/
namespace Go.Proofs.YtnfobnnbeefeeaaGreatDoor.Wi
open Go Go.RowKit
set_option linter.unusedVariables false
set_option linter.unusedSimpArgs false
theorem rnI_err0 {c : Bool} {xs : List UInt8} {k most : Nat} {e : Int} (h : (rnI c xs k e most).2.2 = 0) : e = 0 := by
  cases c with
  | false => exact h
  | true => exact rn_err0 h
theorem rtI_err0 {c : Bool} {xs : List UInt8} {k : Nat} {e : Int} (h : (rtI c xs k e).2.2 = 0) : e = 0 := by
  cases c with
  | false => exact h
  | true => exact rt_err0 h
theorem rdV_stuckE {xs : List UInt8} {k : Nat} {e : Int} (he : e ≠ 0) : (rdV xs k e).2.2 = e := by
  have h : dV xs 9 0 0 k e = (.mk 0 0 [] none 0 [], 1, k, e) := by
    rw [dV, rb_err he]
    dsimp only
    rw [fe_yes he]
    rfl
  unfold rdV
  rw [h]
  dsimp only
  rw [if_neg he]
theorem rdI_err0 {c : Bool} {xs : List UInt8} {k : Nat} {e : Int} (h : (rdI c xs k e).2.2 = 0) : e = 0 := by
  cases c with
  | false => exact h
  | true =>
    by_cases he : e = 0
    · exact he
    · have h2 : (rdV xs k e).2.2 = 0 := h
      rw [rdV_stuckE he] at h2
      exact h2
theorem rnI_bwd {c : Bool} {xs : List UInt8} {k k' n most : Nat} (hk : k ≤ xs.length) (h : rnI c xs k 0 most = (n, k', 0)) : n ≤ most ∧ n < 18446744073709551616 ∧ k' ≤ xs.length ∧ k ≤ k' ∧ xs.drop k = oI c (enc n) ++ xs.drop k' := by
  cases c with
  | false =>
    injection h with h1 h2
    injection h2 with h2 h3
    subst h1 h2
    exact ⟨by omega, by omega, hk, Nat.le_refl _, rfl⟩
  | true =>
    obtain ⟨_, a, b, c, d, e⟩ := rn_bwd h
    exact ⟨a, b, d, c, e⟩
theorem rtI_bwd {c : Bool} {xs s : List UInt8} {k k' : Nat} (hk : k ≤ xs.length) (h : rtI c xs k 0 = (s, k', 0)) : k' ≤ xs.length ∧ k ≤ k' ∧ xs.drop k = oI c (enc s.length ++ s) ++ xs.drop k' := by
  cases c with
  | false =>
    injection h with h1 h2
    injection h2 with h2 h3
    subst h1 h2
    exact ⟨hk, Nat.le_refl _, rfl⟩
  | true =>
    obtain ⟨_, a, b, c, d⟩ := rt_bwd h
    exact ⟨c, b, by rw [d]; show _ = (enc s.length ++ s) ++ _; rw [List.append_assoc]⟩
theorem rdI_bwd {c : Bool} {xs : List UInt8} {k k' : Nat} {v : VT} (hk : k ≤ xs.length) (h : rdI c xs k 0 = (v, k', 0)) : v.nz = v ∧ v.Num ∧ k' ≤ xs.length ∧ k ≤ k' ∧ xs.drop k = oI c v.vb ++ xs.drop k' := by
  cases c with
  | false =>
    injection h with h1 h2
    injection h2 with h2 h3
    subst h1 h2
    exact ⟨zV_nz, by simp [zV, VT.Num, NumL], hk, Nat.le_refl _, rfl⟩
  | true =>
    obtain ⟨a, b, c, d, e, f⟩ := rdV_bwd h hk
    exact ⟨a, b, e, d, f⟩
theorem u8_ofE (b : UInt8) : UInt8.ofNat b.toNat = b := by simp
theorem evR_bwd {xs : List UInt8} {k k' : Nat} {e : Int} {x : Ev} (hk : k ≤ xs.length) (h : evR xs k e = (x, k', 0)) : e = 0 ∧ x.nz = x ∧ x.Num ∧ x.vE = 0 ∧ k ≤ k' ∧ k' ≤ xs.length ∧ xs.drop k = x.eb ++ xs.drop k' := by
  obtain ⟨b0, k0, e0, q0⟩ : ∃ b K E, rb xs k e = (b, K, E) := ⟨_, _, _, rfl⟩
  unfold evR at h
  dsimp only at h
  rw [q0] at h
  dsimp only at h
  obtain ⟨kd, hkd⟩ : ∃ kd : Int, kd = (b0.toNat : Int) := ⟨_, rfl⟩
  rw [← hkd] at h
  obtain ⟨f0, hf0⟩ : ∃ f0, f0 = fe e0 (if eKn kd = true then 0 else 9) := ⟨_, rfl⟩
  rw [← hf0] at h
  obtain ⟨n1, k1, e1, q1⟩ : ∃ b K E, rn xs k0 f0 1048576 = (b, K, E) := ⟨_, _, _, rfl⟩
  rw [q1] at h
  dsimp only at h
  obtain ⟨n2, k2, e2, q2⟩ : ∃ b K E, rn xs k1 e1 4611686018427387903 = (b, K, E) := ⟨_, _, _, rfl⟩
  rw [q2] at h
  dsimp only at h
  obtain ⟨n3, k3, e3, q3⟩ : ∃ b K E, rnI (eA kd) xs k2 e2 9223372036854775807 = (b, K, E) := ⟨_, _, _, rfl⟩
  rw [q3] at h
  dsimp only at h
  obtain ⟨n4, k4, e4, q4⟩ : ∃ b K E, rnI (eB kd) xs k3 e3 9223372036854775807 = (b, K, E) := ⟨_, _, _, rfl⟩
  rw [q4] at h
  dsimp only at h
  obtain ⟨s5, k5, e5, q5⟩ : ∃ b K E, rtI (eN kd) xs k4 e4 = (b, K, E) := ⟨_, _, _, rfl⟩
  rw [q5] at h
  dsimp only at h
  obtain ⟨s6, k6, e6, q6⟩ : ∃ b K E, rtI (eT kd) xs k5 e5 = (b, K, E) := ⟨_, _, _, rfl⟩
  rw [q6] at h
  dsimp only at h
  obtain ⟨v7, k7, e7, q7⟩ : ∃ b K E, rdI (eV kd) xs k6 e6 = (b, K, E) := ⟨_, _, _, rfl⟩
  rw [q7] at h
  dsimp only at h
  obtain ⟨y, hy⟩ : ∃ y : Ev, y = ⟨(n1 : Int), (n2 : Int), kd, (n3 : Int), (n4 : Int), s5, s6, v7⟩ := ⟨_, rfl⟩
  rw [← hy] at h
  injection h with h1 h
  injection h with h2 h3
  obtain ⟨z7, hv⟩ := fe_ok h3
  rw [h3, if_pos rfl] at h1
  subst h1 h2 z7
  -- the errors, backwards
  have z6 : e6 = 0 := rdI_err0 (by rw [q7])
  subst z6
  have z5 : e5 = 0 := rtI_err0 (by rw [q6])
  subst z5
  have z4 : e4 = 0 := rtI_err0 (by rw [q5])
  subst z4
  have z3 : e3 = 0 := rnI_err0 (by rw [q4])
  subst z3
  have z2 : e2 = 0 := rnI_err0 (by rw [q3])
  subst z2
  have z1 : e1 = 0 := rn_err0 (by rw [q2])
  subst z1
  have z0 : f0 = 0 := rn_err0 (by rw [q1])
  subst z0
  obtain ⟨z00, hkn⟩ := fe_ok hf0.symm
  subst z00
  obtain ⟨ze, hlt, hk0, hd0⟩ := rb_bwd q0
  subst ze hk0
  obtain ⟨_, m1, _, l1, b1, d1⟩ := rn_bwd q1
  obtain ⟨_, m2, _, l2, b2, d2⟩ := rn_bwd q2
  obtain ⟨m3, _, b3, l3, d3⟩ := rnI_bwd b2 q3
  obtain ⟨m4, _, b4, l4, d4⟩ := rnI_bwd b3 q4
  obtain ⟨b5, l5, d5⟩ := rtI_bwd b4 q5
  obtain ⟨b6, l6, d6⟩ := rtI_bwd b5 q6
  obtain ⟨vz, vn, b7, l7, d7⟩ := rdI_bwd b6 q7
  refine ⟨rfl, by rw [hy]; show (⟨_, _, _, _, _, _, _, v7.nz⟩ : Ev) = _; rw [vz], ⟨by rw [hy]; show ((n3 : Nat) : Int) ≤ _; omega, by rw [hy]; show ((n4 : Nat) : Int) ≤ _; omega, by rw [hy]; exact vn⟩, hv, by omega, b7, ?_⟩
  rw [hd0, d1, d2, d3, d4, d5, d6, d7, hy]
  unfold Ev.eb
  dsimp only
  rw [hkd]
  simp only [Int.toNat_natCast, u8_ofE, List.cons_append, List.append_assoc]
end Go.Proofs.YtnfobnnbeefeeaaGreatDoor.Wi
/- Bytes of an event that end too soon, or with others behind them. -/
namespace Go.Proofs.YtnfobnnbeefeeaaGreatDoor.Wi
open Go Go.RowKit
set_option linter.unusedVariables false
set_option linter.unusedSimpArgs false
theorem rnI_stuckE {c : Bool} {xs : List UInt8} {k most : Nat} {e : Int} (he : e ≠ 0) : (rnI c xs k e most).2.2 = e := by
  cases c with
  | false => rfl
  | true => show (rn xs k e most).2.2 = e; rw [rn_stuck xs he]
theorem rtI_stuckE {c : Bool} {xs : List UInt8} {k : Nat} {e : Int} (he : e ≠ 0) : (rtI c xs k e).2.2 = e := by
  cases c with
  | false => rfl
  | true => show (rt xs k e).2.2 = e; rw [rt_stuck xs he]
theorem rdI_stuckE {c : Bool} {xs : List UInt8} {k : Nat} {e : Int} (he : e ≠ 0) : (rdI c xs k e).2.2 = e := by
  cases c with
  | false => rfl
  | true => exact rdV_stuckE he
theorem rnI_cut {c : Bool} {xs R : List UInt8} {k m most j : Nat} (hd : xs.drop k = (oI c (enc m) ++ R).take j) (hm : m < 18446744073709551616) (hmost : m ≤ most) (h0 : c = false → m = 0) :
    (rnI c xs k 0 most).2.2 = 6 ∨ ((oI c (enc m)).length ≤ j ∧ rnI c xs k 0 most = (m, k + (oI c (enc m)).length, 0) ∧ xs.drop (k + (oI c (enc m)).length) = R.take (j - (oI c (enc m)).length)) := by
  rcases Nat.lt_or_ge j (oI c (enc m)).length with h | h
  · left
    cases c with
    | false => exact absurd h (by simp [oI])
    | true =>
      rw [take_app_lt h] at hd
      exact (rn_short hd h).2
  · right
    rw [take_app_ge h] at hd
    obtain ⟨a, b⟩ := rnI_fwd hd hm hmost h0
    exact ⟨h, a, b⟩
theorem rtI_cut {c : Bool} {xs R s : List UInt8} {k j : Nat} (hd : xs.drop k = (oI c (enc s.length ++ s) ++ R).take j) (hs : s.length ≤ 4096) (h0 : c = false → s = []) :
    (rtI c xs k 0).2.2 = 6 ∨ ((oI c (enc s.length ++ s)).length ≤ j ∧ rtI c xs k 0 = (s, k + (oI c (enc s.length ++ s)).length, 0) ∧ xs.drop (k + (oI c (enc s.length ++ s)).length) = R.take (j - (oI c (enc s.length ++ s)).length)) := by
  rcases Nat.lt_or_ge j (oI c (enc s.length ++ s)).length with h | h
  · left
    cases c with
    | false => exact absurd h (by simp [oI])
    | true =>
      rw [take_app_lt h] at hd
      exact rt_short hs hd h
  · right
    rw [take_app_ge h] at hd
    obtain ⟨a, b⟩ := rtI_fwd hd hs h0
    exact ⟨h, a, b⟩
theorem rdI_cut {c : Bool} {xs : List UInt8} {v : VT} {k j : Nat} (hd : xs.drop k = (oI c v.vb).take j) (hj : j < (oI c v.vb).length) (hN : v.Num) (hv : v.vE = 0) : (rdI c xs k 0).2.2 = 6 := by
  cases c with
  | false => exact absurd hj (by simp [oI])
  | true =>
    have e := dV_short v 9 0 0 k j xs rfl (by omega) hN (vE_ok hv).1 hd hj
    obtain ⟨V, P, K, E, hX⟩ : ∃ V P K E, dV xs 9 0 0 k 0 = (V, P, K, E) := ⟨_, _, _, _, rfl⟩
    rw [hX] at e
    have e : E = 6 := e
    show (rdV xs k 0).2.2 = 6
    unfold rdV
    rw [hX, e]
    rfl
theorem evR_short {x : Ev} {xs : List UInt8} {k j : Nat} (hN : x.Num) (hv : x.vE = 0) (hx : xs.drop k = x.eb.take j) (hj : j < x.eb.length) : (evR xs k 0).2.2 = 6 := by
  have F := Ev.fits hv
  have hk := F.kn; have hi := F.id; have ht := F.time; have ha := F.a; have hb := F.b; have ma := hN.a; have mb := hN.b
  have kb := u8_kd hk
  have hkn : eKn x.kind = true := by simp [eKn, hk]
  have fin : ∀ (a : Int), fe 6 a = 6 := fun a => fe_yes (by decide) a
  have s6 : (6 : Int) ≠ 0 := by decide
  have w1 : ∀ k most, (rn xs k 6 most).2.2 = 6 := fun k most => by rw [rn_stuck xs s6]
  have w2 : ∀ c k most, (rnI c xs k 6 most).2.2 = 6 := fun c k most => rnI_stuckE s6
  have w3 : ∀ c k, (rtI c xs k 6).2.2 = 6 := fun c k => rtI_stuckE s6
  have w4 : ∀ c k, (rdI c xs k 6).2.2 = 6 := fun c k => rdI_stuckE s6
  rcases Nat.eq_zero_or_pos j with hj0 | hj0
  · subst hj0
    have hl := drop_nil (hx.trans (List.take_zero))
    unfold evR
    dsimp only
    rw [rb_short hl]
    dsimp only
    simp only [fin, w1, w2, w3, w4]
  · obtain ⟨i, rfl⟩ : ∃ i, j = i + 1 := ⟨j - 1, by omega⟩
    unfold Ev.eb at hx hj
    rw [List.take_succ_cons] at hx
    rw [List.length_cons] at hj
    obtain ⟨h1, h2, h3⟩ := rb_cons hx
    unfold evR
    dsimp only
    rw [h1]
    dsimp only
    rw [kb, hkn, if_pos rfl, fe_no]
    rcases rnI_cut (c := true) (most := 1048576) h2 (by omega) (by omega) (by simp) with c1 | ⟨l1, c1, d1⟩
    · have c1 : (rn xs (k + 1) 0 1048576).2.2 = 6 := c1
      rw [c1]
      simp only [fin, w1, w2, w3, w4]
    have c1 : rn xs (k + 1) 0 1048576 = _ := c1
    rw [c1]
    dsimp only
    rcases rnI_cut (c := true) (most := 4611686018427387903) d1 (by omega) (by omega) (by simp) with c2 | ⟨l2, c2, d2⟩
    · have c2 : (rn xs _ 0 4611686018427387903).2.2 = 6 := c2
      rw [c2]
      simp only [fin, w1, w2, w3, w4]
    have c2 : rn xs _ 0 4611686018427387903 = _ := c2
    rw [c2]
    dsimp only
    rcases rnI_cut (most := 9223372036854775807) d2 (by omega) (by omega) (fun h => by have := ha.2 h; omega) with c3 | ⟨l3, c3, d3⟩
    · rw [c3]
      simp only [fin, w1, w2, w3, w4]
    rw [c3]
    dsimp only
    rcases rnI_cut (most := 9223372036854775807) d3 (by omega) (by omega) (fun h => by have := hb.2 h; omega) with c4 | ⟨l4, c4, d4⟩
    · rw [c4]
      simp only [fin, w1, w2, w3, w4]
    rw [c4]
    dsimp only
    rcases rtI_cut d4 (by have := F.name.1; omega) F.name.2 with c5 | ⟨l5, c5, d5⟩
    · rw [c5]
      simp only [fin, w1, w2, w3, w4]
    rw [c5]
    dsimp only
    rcases rtI_cut d5 (by have := F.text.1; omega) F.text.2 with c6 | ⟨l6, c6, d6⟩
    · rw [c6, w4, fin]
    rw [c6]
    dsimp only
    have ot : ∀ l : List UInt8, oI true l = l := fun _ => rfl
    have c7 := rdI_cut d6 (by simp only [List.length_append] at hj l5 l6 ⊢; simp only [ot] at l1 l2 l3 l4 l5 l6 hj ⊢; omega) hN.val F.val.1
    rw [c7, fin]
/-- What Decode answers. -/
def dcE (xs : List UInt8) : Ev × Int :=
  let X := evR xs 0 0
  let e := rend xs X.2.1 X.2.2
  (if e = 0 then X.1 else zE, e)
theorem dcE_fwd {x : Ev} (hN : x.Num) (hv : x.vE = 0) : dcE x.eb = (x.nz, 0) := by
  have e := evR_fwd (xs := x.eb) (k := 0) (rest := []) hN hv (by simp)
  unfold dcE
  rw [e]
  simp [rend, rl]
theorem dcE_more {x : Ev} {more : List UInt8} (hN : x.Num) (hv : x.vE = 0) (hm : more ≠ []) : dcE (x.eb ++ more) = (zE, 8) := by
  have e := evR_fwd (xs := x.eb ++ more) (k := 0) (rest := more) hN hv (by simp)
  unfold dcE
  rw [e]
  have : 0 < more.length := List.length_pos_iff.2 hm
  simp [rend, rl, this]
theorem dcE_short {x : Ev} {j : Nat} (hN : x.Num) (hv : x.vE = 0) (hj : j < x.eb.length) : dcE (x.eb.take j) = (zE, 6) := by
  have e := evR_short (xs := x.eb.take j) (k := 0) hN hv (by simp) hj
  unfold dcE
  dsimp only
  rw [e]
  simp [rend, rl]
theorem dcE_bwd {xs : List UInt8} {x : Ev} (h : dcE xs = (x, 0)) : x.nz = x ∧ x.Num ∧ x.vE = 0 ∧ x.eb = xs := by
  obtain ⟨V, K, E, hX⟩ : ∃ V K E, evR xs 0 0 = (V, K, E) := ⟨_, _, _, rfl⟩
  unfold dcE at h
  rw [hX] at h
  dsimp only at h
  injection h with h1 h2
  rw [h2, if_pos rfl] at h1
  subst h1
  unfold rend rl at h2
  have hE : E = 0 := by
    by_cases hE : E = 0
    · exact hE
    · rw [if_neg hE, if_neg (by omega)] at h2; exact absurd h2 hE
  subst hE
  obtain ⟨_, a, b, c, d, e, f⟩ := evR_bwd (Nat.zero_le _) hX
  rw [if_pos rfl] at h2
  have hK : K = xs.length := by
    by_cases hl : 0 < xs.length - K
    · rw [if_pos hl] at h2; cases h2
    · omega
  refine ⟨a, b, c, ?_⟩
  rw [List.drop_zero, hK, List.drop_length, List.append_nil] at f
  exact f.symm
end Go.Proofs.YtnfobnnbeefeeaaGreatDoor.Wi
/- An event's line. -/
namespace Go.Proofs.YtnfobnnbeefeeaaGreatDoor.Wi
open Go Go.RowKit
set_option linter.unusedVariables false
set_option linter.unusedSimpArgs false
/-- The kinds' names. -/
def eNms : List (List UInt8) := [
  [114, 117, 110, 45, 115, 116, 97, 114, 116, 101, 100],
  [116, 97, 115, 107, 45, 115, 99, 104, 101, 100, 117, 108, 101, 100],
  [116, 97, 115, 107, 45, 115, 116, 97, 114, 116, 101, 100],
  [116, 97, 115, 107, 45, 99, 111, 109, 112, 108, 101, 116, 101, 100],
  [116, 97, 115, 107, 45, 116, 105, 109, 101, 100, 45, 111, 117, 116],
  [116, 97, 115, 107, 45, 102, 97, 105, 108, 101, 100],
  [97, 99, 116, 105, 118, 105, 116, 121, 45, 115, 99, 104, 101, 100, 117, 108, 101, 100],
  [97, 99, 116, 105, 118, 105, 116, 121, 45, 99, 111, 109, 112, 108, 101, 116, 101, 100],
  [97, 99, 116, 105, 118, 105, 116, 121, 45, 102, 97, 105, 108, 101, 100],
  [97, 99, 116, 105, 118, 105, 116, 121, 45, 116, 105, 109, 101, 100, 45, 111, 117, 116],
  [116, 105, 109, 101, 114, 45, 115, 116, 97, 114, 116, 101, 100],
  [116, 105, 109, 101, 114, 45, 102, 105, 114, 101, 100],
  [116, 105, 109, 101, 114, 45, 99, 97, 110, 99, 101, 108, 101, 100],
  [115, 105, 103, 110, 97, 108, 45, 114, 101, 99, 101, 105, 118, 101, 100],
  [99, 97, 110, 99, 101, 108, 45, 114, 101, 113, 117, 101, 115, 116, 101, 100],
  [114, 117, 110, 45, 99, 111, 109, 112, 108, 101, 116, 101, 100],
  [114, 117, 110, 45, 102, 97, 105, 108, 101, 100],
  [114, 117, 110, 45, 99, 97, 110, 99, 101, 108, 101, 100],
  [114, 117, 110, 45, 116, 101, 114, 109, 105, 110, 97, 116, 101, 100],
  [114, 117, 110, 45, 116, 105, 109, 101, 100, 45, 111, 117, 116],
  [99, 111, 110, 116, 105, 110, 117, 101, 100, 45, 97, 115, 45, 110, 101, 119]]
def eNm (k : Int) : List UInt8 := if 1 ≤ k ∧ k ≤ 21 then eNms.getD (k.toNat - 1) [] else []
def oL (c : Bool) (l : List UInt8) : List UInt8 := if c then 32 :: l else []
def Ev.ln (x : Ev) : List UInt8 :=
  Lib.itoa x.id ++ (32 :: 64 :: (Lib.itoa x.time ++ (32 :: (eNm x.kind ++ (oL (eA x.kind) (Lib.itoa x.a) ++ (oL (eB x.kind) (Lib.itoa x.b) ++ (oL (eN x.kind) (qt x.name) ++ (oL (eT x.kind) (qt x.text) ++ oL (eV x.kind) x.val.pv))))))))
theorem itoa_cancel {a b : Int} {r r' : List UInt8} (ha : -9223372036854775808 ≤ a ∧ a ≤ 9223372036854775807) (hb : -9223372036854775808 ≤ b ∧ b ≤ 9223372036854775807) (hr : Stop r) (hr' : Stop r') (h : Lib.itoa a ++ r = Lib.itoa b ++ r') : a = b ∧ r = r' := by
  have e1 := nu_fwd (l := Lib.itoa a ++ r) (k := 0) ha.1 ha.2 rfl hr
  have e2 := nu_fwd (l := Lib.itoa a ++ r) (k := 0) hb.1 hb.2 h hr'
  rw [e1] at e2
  injection e2 with e2
  subst e2
  exact ⟨rfl, List.append_cancel_left h⟩
theorem qt_cancel {a b r r' : List UInt8} (h : qt a ++ r = qt b ++ r') : a = b ∧ r = r' := by
  have e1 := tq_fwd (l := qt a ++ r) (k := 0) (s := a) (rest := r) rfl
  have e2 := tq_fwd (l := qt a ++ r) (k := 0) (s := b) (rest := r') h
  rw [e1] at e2
  injection e2 with e2
  subst e2
  exact ⟨rfl, List.append_cancel_left h⟩
theorem pv_cancel {a b : VT} {r r' : List UInt8} (ha : a.Num) (hb : b.Num) (ea : a.vE = 0) (eb : b.vE = 0) (hr : Stop r) (hr' : Stop r') (h : a.pv ++ r = b.pv ++ r') : a.nz = b.nz ∧ r = r' := by
  have e1 := paV_fwd (a.pv ++ r) a 9 0 0 0 r rfl (by omega) ha (vE_ok ea).1 hr rfl
  have e2 := paV_fwd (a.pv ++ r) b 9 0 0 0 r' rfl (by omega) hb (vE_ok eb).1 hr' h
  rw [e1] at e2
  injection e2 with e2 e3
  refine ⟨e2, ?_⟩
  rw [← nz_pv a, e2, nz_pv b] at h
  exact List.append_cancel_left h
def Sp (r : List UInt8) : Prop := r = [] ∨ ∃ t, r = 32 :: t
theorem Sp.stop {r : List UInt8} (h : Sp r) : Stop r := by
  rcases h with rfl | ⟨t, rfl⟩
  · exact stop_nil
  · exact stop_32 t
theorem sp_oL {c : Bool} {l r : List UInt8} (hr : Sp r) : Sp (oL c l ++ r) := by
  cases c with
  | false => exact hr
  | true => exact .inr ⟨l ++ r, rfl⟩
theorem sp_oL' {c : Bool} {l : List UInt8} : Sp (oL c l) := by
  cases c with
  | false => exact .inl rfl
  | true => exact .inr ⟨l, rfl⟩
theorem tw_sp {a r : List UInt8} (ha : ∀ c ∈ a, (c != 32) = true) (hr : Sp r) : (a ++ r).takeWhile (· != 32) = a := by
  induction a with
  | nil =>
    rcases hr with rfl | ⟨t, rfl⟩
    · rfl
    · rfl
  | cons c a ih =>
    rw [List.cons_append, List.takeWhile_cons, ha c (by simp)]
    simp only [if_true]
    rw [ih fun d hd => ha d (by simp [hd])]
theorem nm_all : eNms.all (fun l => l.all (· != 32)) = true := by decide +kernel
theorem nm_clean {k : Int} : ∀ c ∈ eNm k, (c != 32) = true := by
  intro c hc
  unfold eNm at hc
  split at hc
  · rename_i hk
    rw [List.getD_eq_getElem?_getD] at hc
    cases hg : eNms[k.toNat - 1]? with
    | none => rw [hg] at hc; simp at hc
    | some l =>
      rw [hg] at hc
      have h1 := List.all_eq_true.1 nm_all l (List.mem_of_getElem? hg)
      exact List.all_eq_true.1 h1 c hc
  · simp at hc
theorem nm_inj_all : ∀ i j : Fin 21, eNms.getD i.val [] = eNms.getD j.val [] → i = j := by decide +kernel
theorem nm_inj {k q : Int} (hk : 1 ≤ k ∧ k ≤ 21) (hq : 1 ≤ q ∧ q ≤ 21) (h : eNm k = eNm q) : k = q := by
  unfold eNm at h
  rw [if_pos hk, if_pos hq] at h
  have := nm_inj_all ⟨k.toNat - 1, by omega⟩ ⟨q.toNat - 1, by omega⟩ h
  injection this with this
  omega
theorem nm_cancel {k q : Int} {r r' : List UInt8} (hk : 1 ≤ k ∧ k ≤ 21) (hq : 1 ≤ q ∧ q ≤ 21) (hr : Sp r) (hr' : Sp r') (h : eNm k ++ r = eNm q ++ r') : k = q ∧ r = r' := by
  have e : eNm k = eNm q := by rw [← tw_sp nm_clean hr, h, tw_sp nm_clean hr']
  have := nm_inj hk hq e
  subst this
  exact ⟨rfl, List.append_cancel_left h⟩
theorem oI_cancel {c : Bool} {a b : Int} {r r' : List UInt8} (ha : 0 ≤ a ∧ a ≤ 9223372036854775807 ∧ (c = false → a = 0)) (hb : 0 ≤ b ∧ b ≤ 9223372036854775807 ∧ (c = false → b = 0)) (hr : Sp r) (hr' : Sp r') (h : oL c (Lib.itoa a) ++ r = oL c (Lib.itoa b) ++ r') : a = b ∧ r = r' := by
  cases c with
  | false => exact ⟨(ha.2.2 rfl).trans (hb.2.2 rfl).symm, h⟩
  | true =>
    have h : 32 :: (Lib.itoa a ++ r) = 32 :: (Lib.itoa b ++ r') := h
    injection h with _ h
    exact itoa_cancel ⟨by omega, ha.2.1⟩ ⟨by omega, hb.2.1⟩ hr.stop hr'.stop h
theorem oQ_cancel {c : Bool} {a b r r' : List UInt8} (ha : c = false → a = []) (hb : c = false → b = []) (h : oL c (qt a) ++ r = oL c (qt b) ++ r') : a = b ∧ r = r' := by
  cases c with
  | false => exact ⟨(ha rfl).trans (hb rfl).symm, h⟩
  | true =>
    have h : 32 :: (qt a ++ r) = 32 :: (qt b ++ r') := h
    injection h with _ h
    exact qt_cancel h
theorem oV_cancel {c : Bool} {a b : VT} (na : a.Num) (nb : b.Num) (ea : a.vE = 0) (eb : b.vE = 0) (ha : c = false → a.nz = zV) (hb : c = false → b.nz = zV) (h : oL c a.pv = oL c b.pv) : a.nz = b.nz := by
  cases c with
  | false => exact (ha rfl).trans (hb rfl).symm
  | true =>
    have h : 32 :: a.pv = 32 :: b.pv := h
    injection h with _ h
    exact (pv_cancel na nb ea eb stop_nil stop_nil (by rw [List.append_nil, List.append_nil]; exact h)).1
/-- Unlike events have unlike lines. -/
theorem ln_inj {x y : Ev} (hx : x.Num) (hy : y.Num) (ex : x.vE = 0) (ey : y.vE = 0) (h : x.ln = y.ln) : x.nz = y.nz := by
  have F := Ev.fits ex
  have G := Ev.fits ey
  have f1 := F.id; have f2 := F.time; have f3 := F.a; have f4 := F.b; have f5 := hx.a; have f6 := hx.b
  have g1 := G.id; have g2 := G.time; have g3 := G.a; have g4 := G.b; have g5 := hy.a; have g6 := hy.b
  unfold Ev.ln at h
  obtain ⟨h1, h⟩ := itoa_cancel ⟨by omega, by omega⟩ ⟨by omega, by omega⟩ (stop_32 _) (stop_32 _) h
  injection h with _ h
  injection h with _ h
  obtain ⟨h2, h⟩ := itoa_cancel ⟨by omega, by omega⟩ ⟨by omega, by omega⟩ (stop_32 _) (stop_32 _) h
  injection h with _ h
  obtain ⟨h3, h⟩ := nm_cancel F.kn G.kn (sp_oL (sp_oL (sp_oL (sp_oL sp_oL')))) (sp_oL (sp_oL (sp_oL (sp_oL sp_oL')))) h
  rw [← h3] at h g3 g4
  have G5 := G.name; have G6 := G.text; have G7 := G.val
  rw [← h3] at G5 G6 G7
  obtain ⟨h4, h⟩ := oI_cancel ⟨f3.1, f5, f3.2⟩ ⟨g3.1, g5, g3.2⟩ (sp_oL (sp_oL (sp_oL sp_oL'))) (sp_oL (sp_oL (sp_oL sp_oL'))) h
  obtain ⟨h5, h⟩ := oI_cancel ⟨f4.1, f6, f4.2⟩ ⟨g4.1, g6, g4.2⟩ (sp_oL (sp_oL sp_oL')) (sp_oL (sp_oL sp_oL')) h
  obtain ⟨h6, h⟩ := oQ_cancel F.name.2 G5.2 h
  obtain ⟨h7, h⟩ := oQ_cancel F.text.2 G6.2 h
  have h8 := oV_cancel hx.val hy.val F.val.1 G.val.1 F.val.2 G7.2 h
  unfold Ev.nz
  obtain ⟨a1, a2, a3, a4, a5, a6, a7, a8⟩ := x
  obtain ⟨b1, b2, b3, b4, b5, b6, b7, b8⟩ := y
  dsimp only at h1 h2 h3 h4 h5 h6 h7 h8 ⊢
  subst h1 h2 h3 h4 h5 h6 h7
  rw [h8]
theorem nz_ln (x : Ev) : x.nz.ln = x.ln := by
  unfold Ev.ln Ev.nz
  dsimp only
  rw [nz_pv]
end Go.Proofs.YtnfobnnbeefeeaaGreatDoor.Wi
/- Commands and their bytes: the model, what is written is read so, and back. -/
namespace Go.Proofs.YtnfobnnbeefeeaaGreatDoor.Wi
open Go Go.RowKit
set_option linter.unusedVariables false
set_option linter.unusedSimpArgs false
/-- A command. -/
structure Cm where
  kind : Int
  time : Int
  a : Int
  b : Int
  name : List UInt8
  val : VT
def cKn (k : Int) : Bool := decide (1 ≤ k) && decide (k ≤ 6)
def cA (k : Int) : Bool := decide (1 ≤ k) && decide (k ≤ 3)
def cB (k : Int) : Bool := k == 1 || k == 3
def cN (k : Int) : Bool := k == 3 || k == 5
def cV (k : Int) : Bool := k == 3 || k == 4 || k == 6
def Cm.rng (x : Cm) : Bool := decide (0 ≤ x.time) && decide (x.time ≤ 4611686018427387903) && eOk x.a (cA x.kind) && eOk x.b (cB x.kind)
def Cm.vE (x : Cm) : Int :=
  if cKn x.kind = false then 9 else if x.rng = false then 1 else if 64 < x.name.length then 2
  else if (x.name ≠ [] ∧ cN x.kind = false) ∨ (x.val.kd ≠ 0 ∧ cV x.kind = false) then 8 else x.val.vE
def Cm.nz (x : Cm) : Cm := { x with val := x.val.nz }
def Cm.cb (x : Cm) : List UInt8 :=
  UInt8.ofNat x.kind.toNat :: (enc x.time.toNat ++ (oI (cA x.kind) (enc x.a.toNat) ++ (oI (cB x.kind) (enc x.b.toNat) ++ (oI (cN x.kind) (enc x.name.length ++ x.name) ++ oI (cV x.kind) x.val.vb))))
def cbL (l : List Cm) : List UInt8 := (l.map Cm.cb).flatten
def Cm.ends (x : Cm) : Bool := decide (4 ≤ x.kind) && decide (x.kind ≤ 6)
def allC : List Cm → Int
  | [] => 0
  | c :: t => if c.vE ≠ 0 then c.vE else if c.ends = true ∧ t ≠ [] then 7 else allC t
def allE (l : List Cm) : Int := if 256 < l.length then 2 else allC l
def crR (xs : List UInt8) (k : Nat) (e : Int) : Cm × Nat × Int :=
  let x0 := rb xs k e
  let kd : Int := (x0.1.toNat : Int)
  let x2 := rn xs x0.2.1 (fe x0.2.2 (if cKn kd then 0 else 9)) 4611686018427387903
  let x3 := rnI (cA kd) xs x2.2.1 x2.2.2 9223372036854775807
  let x4 := rnI (cB kd) xs x3.2.1 x3.2.2 9223372036854775807
  let x5 := rtI (cN kd) xs x4.2.1 x4.2.2
  let x7 := rdI (cV kd) xs x5.2.1 x5.2.2
  let x : Cm := ⟨kd, (x2.1 : Int), (x3.1 : Int), (x4.1 : Int), x5.1, x7.1⟩
  (x, x7.2.1, fe x7.2.2 x.vE)
def crL (xs : List UInt8) : Nat → Nat → Int → List Cm × Nat × Int
  | 0, k, e => ([], k, e)
  | n + 1, k, e => ((crR xs k e).1 :: (crL xs n (crR xs k e).2.1 (crR xs k e).2.2).1, (crL xs n (crR xs k e).2.1 (crR xs k e).2.2).2)
/-- What Decode answers. -/
def dcC (xs : List UInt8) : List Cm × Int :=
  let h := rn xs 0 0 256
  let L := crL xs h.1 h.2.1 h.2.2
  let e := rend xs L.2.1 L.2.2
  let e2 := if e = 0 then allE L.1 else e
  (if e2 = 0 then L.1 else [], e2)
structure Cm.Fits (x : Cm) : Prop where
  kn : 1 ≤ x.kind ∧ x.kind ≤ 6
  time : 0 ≤ x.time ∧ x.time ≤ 4611686018427387903
  a : 0 ≤ x.a ∧ (cA x.kind = false → x.a = 0)
  b : 0 ≤ x.b ∧ (cB x.kind = false → x.b = 0)
  name : x.name.length ≤ 64 ∧ (cN x.kind = false → x.name = [])
  val : x.val.vE = 0 ∧ (cV x.kind = false → x.val.nz = zV)
theorem Cm.fits {x : Cm} (h : x.vE = 0) : x.Fits := by
  unfold Cm.vE at h
  by_cases h1 : cKn x.kind = false
  · rw [if_pos h1] at h; cases h
  rw [if_neg h1] at h
  by_cases h2 : x.rng = false
  · rw [if_pos h2] at h; cases h
  rw [if_neg h2] at h
  by_cases h3 : 64 < x.name.length
  · rw [if_pos h3] at h; cases h
  rw [if_neg h3] at h
  split at h
  · cases h
  rename_i h4
  have k1 : 1 ≤ x.kind ∧ x.kind ≤ 6 := by simpa [cKn] using h1
  have r1 : ((0 ≤ x.time ∧ x.time ≤ 4611686018427387903) ∧ eOk x.a (cA x.kind) = true) ∧ eOk x.b (cB x.kind) = true := by
    have : x.rng = true := by cases hr : x.rng <;> simp_all
    simpa only [Cm.rng, Bool.and_eq_true, decide_eq_true_eq] using this
  obtain ⟨⟨t1, a1⟩, b1⟩ := r1
  refine ⟨k1, t1, eOk_nat a1, eOk_nat b1, ⟨by omega, fun hn => ?_⟩, h, fun hn => ?_⟩
  · rcases Decidable.em (x.name = []) with e | e
    · exact e
    · exact absurd (.inl ⟨e, hn⟩) h4
  · by_cases e : x.val.kd = 0
    · exact nz_head e
    · exact absurd (.inr ⟨e, hn⟩) h4
structure Cm.Num (x : Cm) : Prop where
  a : x.a ≤ 9223372036854775807
  b : x.b ≤ 9223372036854775807
  val : x.val.Num
theorem Cm.nz_vE (x : Cm) : x.nz.vE = x.vE := by
  unfold Cm.vE Cm.nz Cm.rng
  dsimp only
  rw [nz_kdE, nz_vEE]
theorem Cm.nz_cb (x : Cm) : x.nz.cb = x.cb := by
  unfold Cm.cb Cm.nz
  dsimp only
  rw [nz_vb]
theorem allC_nz : ∀ l : List Cm, allC (l.map Cm.nz) = allC l
  | [] => rfl
  | c :: t => by
    rw [List.map_cons, allC, allC, Cm.nz_vE, allC_nz t]
    have : (c.nz.ends = true ∧ t.map Cm.nz ≠ []) = (c.ends = true ∧ t ≠ []) := by
      apply propext
      rw [show c.nz.ends = c.ends from rfl]
      simp
    simp only [this]
theorem allE_nz (l : List Cm) : allE (l.map Cm.nz) = allE l := by
  unfold allE
  rw [List.length_map, allC_nz]
theorem crR_fwd {x : Cm} {xs rest : List UInt8} {k : Nat} (hN : x.Num) (hv : x.vE = 0) (hx : xs.drop k = x.cb ++ rest) : crR xs k 0 = (x.nz, k + x.cb.length, 0) := by
  have F := Cm.fits hv
  have hk := F.kn; have ht := F.time; have ha := F.a; have hb := F.b; have ma := hN.a; have mb := hN.b
  unfold Cm.cb at hx
  rw [List.cons_append] at hx
  obtain ⟨h1, h2, h3⟩ := rb_cons hx
  simp only [List.append_assoc] at h2
  have e2 := rn_fwd (most := 4611686018427387903) h2 (by omega) (by omega)
  have d2 := dnE h2
  obtain ⟨e3, d3⟩ := rnI_fwd (most := 9223372036854775807) d2 (by omega) (by omega) (fun h => by have := ha.2 h; omega)
  obtain ⟨e4, d4⟩ := rnI_fwd (most := 9223372036854775807) d3 (by omega) (by omega) (fun h => by have := hb.2 h; omega)
  obtain ⟨e5, d5⟩ := rtI_fwd d4 (by have := F.name.1; omega) F.name.2
  have e7 := rdI_fwd d5 hN.val F.val.1 F.val.2
  have kb := u8_kd (k := x.kind) ⟨hk.1, by omega⟩
  have hkn : cKn x.kind = true := by simp [cKn, hk]
  unfold crR
  dsimp only
  rw [h1]
  dsimp only
  rw [kb, hkn, if_pos rfl, fe_no, e2]
  dsimp only
  rw [e3]
  dsimp only
  rw [e4]
  dsimp only
  rw [e5]
  dsimp only
  rw [e7]
  dsimp only
  have c2 : ((x.time.toNat : Nat) : Int) = x.time := by omega
  have c3 : ((x.a.toNat : Nat) : Int) = x.a := by omega
  have c4 : ((x.b.toNat : Nat) : Int) = x.b := by omega
  rw [c2, c3, c4, fe_no, show (⟨x.kind, x.time, x.a, x.b, x.name, x.val.nz⟩ : Cm) = x.nz from rfl, Cm.nz_vE, hv]
  unfold Cm.cb
  simp only [List.length_cons, List.length_append]
  congr 2
  omega
theorem crR_bwd {xs : List UInt8} {k k' : Nat} {e : Int} {x : Cm} (hk : k ≤ xs.length) (h : crR xs k e = (x, k', 0)) : e = 0 ∧ x.nz = x ∧ x.Num ∧ x.vE = 0 ∧ k ≤ k' ∧ k' ≤ xs.length ∧ xs.drop k = x.cb ++ xs.drop k' := by
  obtain ⟨b0, k0, e0, q0⟩ : ∃ b K E, rb xs k e = (b, K, E) := ⟨_, _, _, rfl⟩
  unfold crR at h
  dsimp only at h
  rw [q0] at h
  dsimp only at h
  obtain ⟨kd, hkd⟩ : ∃ kd : Int, kd = (b0.toNat : Int) := ⟨_, rfl⟩
  rw [← hkd] at h
  obtain ⟨f0, hf0⟩ : ∃ f0, f0 = fe e0 (if cKn kd = true then 0 else 9) := ⟨_, rfl⟩
  rw [← hf0] at h
  obtain ⟨n2, k2, e2, q2⟩ : ∃ b K E, rn xs k0 f0 4611686018427387903 = (b, K, E) := ⟨_, _, _, rfl⟩
  rw [q2] at h
  dsimp only at h
  obtain ⟨n3, k3, e3, q3⟩ : ∃ b K E, rnI (cA kd) xs k2 e2 9223372036854775807 = (b, K, E) := ⟨_, _, _, rfl⟩
  rw [q3] at h
  dsimp only at h
  obtain ⟨n4, k4, e4, q4⟩ : ∃ b K E, rnI (cB kd) xs k3 e3 9223372036854775807 = (b, K, E) := ⟨_, _, _, rfl⟩
  rw [q4] at h
  dsimp only at h
  obtain ⟨s5, k5, e5, q5⟩ : ∃ b K E, rtI (cN kd) xs k4 e4 = (b, K, E) := ⟨_, _, _, rfl⟩
  rw [q5] at h
  dsimp only at h
  obtain ⟨v7, k7, e7, q7⟩ : ∃ b K E, rdI (cV kd) xs k5 e5 = (b, K, E) := ⟨_, _, _, rfl⟩
  rw [q7] at h
  dsimp only at h
  obtain ⟨y, hy⟩ : ∃ y : Cm, y = ⟨kd, (n2 : Int), (n3 : Int), (n4 : Int), s5, v7⟩ := ⟨_, rfl⟩
  rw [← hy] at h
  injection h with h1 h
  injection h with h2 h3
  obtain ⟨z7, hv⟩ := fe_ok h3
  subst h1 h2 z7
  have z5 : e5 = 0 := rdI_err0 (by rw [q7])
  subst z5
  have z4 : e4 = 0 := rtI_err0 (by rw [q5])
  subst z4
  have z3 : e3 = 0 := rnI_err0 (by rw [q4])
  subst z3
  have z2 : e2 = 0 := rnI_err0 (by rw [q3])
  subst z2
  have z0 : f0 = 0 := rn_err0 (by rw [q2])
  subst z0
  obtain ⟨z00, hkn⟩ := fe_ok hf0.symm
  subst z00
  obtain ⟨ze, hlt, hk0, hd0⟩ := rb_bwd q0
  subst ze hk0
  obtain ⟨_, m2, _, l2, b2, d2⟩ := rn_bwd q2
  obtain ⟨m3, _, b3, l3, d3⟩ := rnI_bwd b2 q3
  obtain ⟨m4, _, b4, l4, d4⟩ := rnI_bwd b3 q4
  obtain ⟨b5, l5, d5⟩ := rtI_bwd b4 q5
  obtain ⟨vz, vn, b7, l7, d7⟩ := rdI_bwd b5 q7
  refine ⟨rfl, by rw [hy]; show (⟨_, _, _, _, _, v7.nz⟩ : Cm) = _; rw [vz], ⟨by rw [hy]; show ((n3 : Nat) : Int) ≤ _; omega, by rw [hy]; show ((n4 : Nat) : Int) ≤ _; omega, by rw [hy]; exact vn⟩, hv, by omega, b7, ?_⟩
  rw [hd0, d2, d3, d4, d5, d7, hy]
  unfold Cm.cb
  dsimp only
  rw [hkd]
  simp only [Int.toNat_natCast, u8_ofE, List.cons_append, List.append_assoc]
theorem crL_fwd {xs : List UInt8} : ∀ (l : List Cm) (rest : List UInt8) (k : Nat), (∀ x ∈ l, x.Num ∧ x.vE = 0) → xs.drop k = cbL l ++ rest → crL xs l.length k 0 = (l.map Cm.nz, k + (cbL l).length, 0)
  | [], rest, k, _, _ => rfl
  | x :: l, rest, k, hl, h => by
    have e : cbL (x :: l) = x.cb ++ cbL l := by simp [cbL]
    rw [e, List.append_assoc] at h
    obtain ⟨h1, h2⟩ := hl x (by simp)
    have e1 := crR_fwd h1 h2 h
    have e2 := crL_fwd l rest (k + x.cb.length) (fun y hy => hl y (by simp [hy])) (dnE h)
    rw [List.length_cons, crL, e1]
    dsimp only
    rw [e2, e, List.map_cons, List.length_append, Nat.add_assoc]
theorem crR_err0 {xs : List UInt8} {k : Nat} {e : Int} (hk : k ≤ xs.length) (h : (crR xs k e).2.2 = 0) : e = 0 := by
  obtain ⟨x, k', z, hX⟩ : ∃ V K E, crR xs k e = (V, K, E) := ⟨_, _, _, rfl⟩
  rw [hX] at h
  have h : z = 0 := h
  subst h
  exact (crR_bwd hk hX).1
end Go.Proofs.YtnfobnnbeefeeaaGreatDoor.Wi
/- Commands' bytes: lists; their lines; what is written of them. -/
namespace Go.Proofs.YtnfobnnbeefeeaaGreatDoor.Wi
open Go Go.RowKit
set_option linter.unusedVariables false
set_option linter.unusedSimpArgs false
theorem crR_stuck {xs : List UInt8} {k : Nat} {e : Int} (he : e ≠ 0) : (crR xs k e).2.2 = e := by
  unfold crR
  dsimp only
  rw [rb_err he]
  dsimp only
  rw [fe_yes he, rn_stuck xs he]
  dsimp only
  have h1 : ∀ c k m, (rnI c xs k e m).2.2 = e := fun c k m => rnI_stuckE he
  have h2 : ∀ c k, (rtI c xs k e).2.2 = e := fun c k => rtI_stuckE he
  have h3 : ∀ c k, (rdI c xs k e).2.2 = e := fun c k => rdI_stuckE he
  simp only [h1, h2, h3]
  exact fe_yes he _
theorem crL_stuck {xs : List UInt8} {e : Int} (he : e ≠ 0) : ∀ (n k : Nat), (crL xs n k e).2.2 = e
  | 0, k => rfl
  | n + 1, k => by
    rw [crL]
    show (crL xs n (crR xs k e).2.1 (crR xs k e).2.2).2.2 = e
    rw [crR_stuck he]
    exact crL_stuck he n _
theorem crL_bwd {xs : List UInt8} : ∀ (n k k' : Nat) (e : Int) (l : List Cm), k ≤ xs.length → crL xs n k e = (l, k', 0) →
    e = 0 ∧ l.length = n ∧ l.map Cm.nz = l ∧ (∀ x ∈ l, x.Num ∧ x.vE = 0) ∧ k ≤ k' ∧ k' ≤ xs.length ∧ xs.drop k = cbL l ++ xs.drop k'
  | 0, k, k', e, l, hk, h => by
    injection h with h1 h
    injection h with h2 h3
    subst h1 h2 h3
    exact ⟨rfl, rfl, rfl, (fun x hx => by cases hx), Nat.le_refl _, hk, rfl⟩
  | n + 1, k, k', e, l, hk, h => by
    obtain ⟨x, k1, e1, hx⟩ : ∃ V K E, crR xs k e = (V, K, E) := ⟨_, _, _, rfl⟩
    rw [crL, hx] at h
    dsimp only at h
    obtain ⟨m, k2, e2, hm⟩ : ∃ V K E, crL xs n k1 e1 = (V, K, E) := ⟨_, _, _, rfl⟩
    rw [hm] at h
    injection h with h1 h
    injection h with h2 h3
    subst h1 h2 h3
    have z1 : e1 = 0 := by
      by_cases he : e1 = 0
      · exact he
      · have := crL_stuck (xs := xs) he n k1
        rw [hm] at this
        exact absurd this.symm he
    subst z1
    obtain ⟨a1, a2, a3, a4, a5, a6, a7⟩ := crR_bwd hk hx
    obtain ⟨_, b2, b3, b4, b5, b6, b7⟩ := crL_bwd n k1 k2 0 m a6 hm
    refine ⟨a1, by rw [List.length_cons, b2], by rw [List.map_cons, a2, b3], ?_, by omega, b6, ?_⟩
    · intro y hy
      rcases List.mem_cons.1 hy with rfl | hy
      · exact ⟨a3, a4⟩
      · exact b4 y hy
    · rw [a7, b7, show cbL (x :: m) = x.cb ++ cbL m by simp [cbL], List.append_assoc]
theorem allC_ok : ∀ {l : List Cm}, allC l = 0 → ∀ x ∈ l, x.vE = 0
  | [], _, x, hx => by cases hx
  | c :: t, h, x, hx => by
    rw [allC] at h
    by_cases hc : c.vE ≠ 0
    · rw [if_pos hc] at h; exact absurd h hc
    rw [if_neg hc] at h
    by_cases hd : c.ends = true ∧ t ≠ []
    · rw [if_pos hd] at h; cases h
    rw [if_neg hd] at h
    rcases List.mem_cons.1 hx with rfl | hx
    · exact Decidable.not_not.1 hc
    · exact allC_ok h x hx
theorem allE_ok {l : List Cm} (h : allE l = 0) : l.length ≤ 256 ∧ ∀ x ∈ l, x.vE = 0 := by
  unfold allE at h
  by_cases hl : 256 < l.length
  · rw [if_pos hl] at h; cases h
  rw [if_neg hl] at h
  exact ⟨by omega, allC_ok h⟩
def cbA (l : List Cm) : List UInt8 := enc l.length ++ cbL l
theorem dcC_fwd {l : List Cm} (hN : ∀ x ∈ l, x.Num) (hv : allE l = 0) : dcC (cbA l) = (l.map Cm.nz, 0) := by
  obtain ⟨hl, hx⟩ := allE_ok hv
  have e1 := rn_fwd (xs := cbA l) (k := 0) (rest := cbL l) (m := l.length) (most := 256) rfl (by omega) hl
  have e2 := crL_fwd (xs := cbA l) l [] (0 + (enc l.length).length) (fun x h => ⟨hN x h, hx x h⟩) (by rw [List.append_nil]; exact dnE (k := 0) rfl)
  unfold dcC
  dsimp only
  rw [e1]
  dsimp only
  rw [e2]
  dsimp only
  have h0 : rend (cbA l) (0 + (enc l.length).length + (cbL l).length) 0 = 0 := by
    unfold rend rl cbA
    rw [List.length_append]
    simp
  rw [h0, if_pos rfl, allE_nz, hv, if_pos rfl]
theorem dcC_bwd {xs : List UInt8} {l : List Cm} (h : dcC xs = (l, 0)) : l.map Cm.nz = l ∧ (∀ x ∈ l, x.Num) ∧ allE l = 0 ∧ cbA l = xs := by
  obtain ⟨n, k, e, h1⟩ : ∃ V K E, rn xs 0 0 256 = (V, K, E) := ⟨_, _, _, rfl⟩
  obtain ⟨L, K, E, h2⟩ : ∃ V K E, crL xs n k e = (V, K, E) := ⟨_, _, _, rfl⟩
  unfold dcC at h
  dsimp only at h
  rw [h1] at h
  dsimp only at h
  rw [h2] at h
  dsimp only at h
  injection h with g1 g2
  rw [g2, if_pos rfl] at g1
  subst g1
  have hr : rend xs K E = 0 := by
    by_cases hr : rend xs K E = 0
    · exact hr
    · rw [if_neg hr] at g2; exact absurd g2 hr
  rw [hr, if_pos rfl] at g2
  unfold rend rl at hr
  have hE : E = 0 := by
    by_cases hE : E = 0
    · exact hE
    · rw [if_neg hE, if_neg (by omega)] at hr; exact absurd hr hE
  subst hE
  have z : e = 0 := by
    by_cases he : e = 0
    · exact he
    · have := crL_stuck (xs := xs) he n k
      rw [h2] at this
      exact absurd this.symm he
  subst z
  obtain ⟨_, m1, m2, m3, m4, m5⟩ := rn_bwd h1
  obtain ⟨_, b2, b3, b4, b5, b6, b7⟩ := crL_bwd n k K 0 L m4 h2
  rw [if_pos rfl] at hr
  have hK : K = xs.length := by
    by_cases hl : 0 < xs.length - K
    · rw [if_pos hl] at hr; cases hr
    · omega
  refine ⟨b3, fun x hx => (b4 x hx).1, g2, ?_⟩
  rw [List.drop_zero] at m5
  rw [hK, List.drop_length, List.append_nil] at b7
  unfold cbA
  rw [m5, b7, b2]
/-- The kinds' names. -/
def cNms : List (List UInt8) := [[115, 116, 97, 114, 116, 45, 116, 105, 109, 101, 114], [99, 97, 110, 99, 101, 108, 45, 116, 105, 109, 101, 114], [115, 99, 104, 101, 100, 117, 108, 101], [99, 111, 109, 112, 108, 101, 116, 101], [102, 97, 105, 108], [97, 103, 97, 105, 110]]
def cNm (k : Int) : List UInt8 := if 1 ≤ k ∧ k ≤ 6 then cNms.getD (k.toNat - 1) [] else []
def Cm.ln (x : Cm) : List UInt8 :=
  64 :: (Lib.itoa x.time ++ (32 :: (cNm x.kind ++ (oL (cA x.kind) (Lib.itoa x.a) ++ (oL (cB x.kind) (Lib.itoa x.b) ++ (oL (cN x.kind) (qt x.name) ++ oL (cV x.kind) x.val.pv))))))
theorem cnm_all : cNms.all (fun l => l.all (· != 32)) = true := by decide +kernel
theorem cnm_clean {k : Int} : ∀ c ∈ cNm k, (c != 32) = true := by
  intro c hc
  unfold cNm at hc
  split at hc
  · rename_i hk
    rw [List.getD_eq_getElem?_getD] at hc
    cases hg : cNms[k.toNat - 1]? with
    | none => rw [hg] at hc; simp at hc
    | some l =>
      rw [hg] at hc
      have h1 := List.all_eq_true.1 cnm_all l (List.mem_of_getElem? hg)
      exact List.all_eq_true.1 h1 c hc
  · simp at hc
theorem cnm_inj_all : ∀ i j : Fin 6, cNms.getD i.val [] = cNms.getD j.val [] → i = j := by decide +kernel
theorem cnm_inj {k q : Int} (hk : 1 ≤ k ∧ k ≤ 6) (hq : 1 ≤ q ∧ q ≤ 6) (h : cNm k = cNm q) : k = q := by
  unfold cNm at h
  rw [if_pos hk, if_pos hq] at h
  have := cnm_inj_all ⟨k.toNat - 1, by omega⟩ ⟨q.toNat - 1, by omega⟩ h
  injection this with this
  omega
theorem cnm_cancel {k q : Int} {r r' : List UInt8} (hk : 1 ≤ k ∧ k ≤ 6) (hq : 1 ≤ q ∧ q ≤ 6) (hr : Sp r) (hr' : Sp r') (h : cNm k ++ r = cNm q ++ r') : k = q ∧ r = r' := by
  have e : cNm k = cNm q := by rw [← tw_sp cnm_clean hr, h, tw_sp cnm_clean hr']
  have := cnm_inj hk hq e
  subst this
  exact ⟨rfl, List.append_cancel_left h⟩
/-- Unlike commands have unlike lines. -/
theorem cln_inj {x y : Cm} (hx : x.Num) (hy : y.Num) (ex : x.vE = 0) (ey : y.vE = 0) (h : x.ln = y.ln) : x.nz = y.nz := by
  have F := Cm.fits ex
  have G := Cm.fits ey
  have f2 := F.time; have f3 := F.a; have f4 := F.b; have f5 := hx.a; have f6 := hx.b
  have g2 := G.time; have g3 := G.a; have g4 := G.b; have g5 := hy.a; have g6 := hy.b
  unfold Cm.ln at h
  injection h with _ h
  obtain ⟨h2, h⟩ := itoa_cancel ⟨by omega, by omega⟩ ⟨by omega, by omega⟩ (stop_32 _) (stop_32 _) h
  injection h with _ h
  obtain ⟨h3, h⟩ := cnm_cancel F.kn G.kn (sp_oL (sp_oL (sp_oL sp_oL'))) (sp_oL (sp_oL (sp_oL sp_oL'))) h
  rw [← h3] at h g3 g4
  have G5 := G.name; have G7 := G.val
  rw [← h3] at G5 G7
  obtain ⟨h4, h⟩ := oI_cancel ⟨f3.1, f5, f3.2⟩ ⟨g3.1, g5, g3.2⟩ (sp_oL (sp_oL sp_oL')) (sp_oL (sp_oL sp_oL')) h
  obtain ⟨h5, h⟩ := oI_cancel ⟨f4.1, f6, f4.2⟩ ⟨g4.1, g6, g4.2⟩ (sp_oL sp_oL') (sp_oL sp_oL') h
  obtain ⟨h6, h⟩ := oQ_cancel F.name.2 G5.2 h
  have h8 := oV_cancel hx.val hy.val F.val.1 G.val.1 F.val.2 G7.2 h
  unfold Cm.nz
  obtain ⟨a1, a2, a3, a4, a5, a6⟩ := x
  obtain ⟨b1, b2, b3, b4, b5, b6⟩ := y
  dsimp only at h2 h3 h4 h5 h6 h8 ⊢
  subst h2 h3 h4 h5 h6
  rw [h8]
theorem cnz_ln (x : Cm) : x.nz.ln = x.ln := by
  unfold Cm.ln Cm.nz
  dsimp only
  rw [nz_pv]
end Go.Proofs.YtnfobnnbeefeeaaGreatDoor.Wi
/- Events that are the same; what is written of a command; what erasing leaves. -/
namespace Go.Proofs.YtnfobnnbeefeeaaGreatDoor.Wi
open Go Go.RowKit
set_option linter.unusedVariables false
set_option linter.unusedSimpArgs false
/-- What event.Same says. -/
def Ev.same (x y : Ev) : Bool := x.id == y.id && x.time == y.time && x.kind == y.kind && x.a == y.a && x.b == y.b && x.name == y.name && x.text == y.text && decide (x.val.cmp y.val = 0)
def Cm.same (x y : Cm) : Bool := x.kind == y.kind && x.time == y.time && x.a == y.a && x.b == y.b && x.name == y.name && decide (x.val.cmp y.val = 0)
theorem Ev.ext_nz {x y : Ev} : x.nz = y.nz ↔ x.id = y.id ∧ x.time = y.time ∧ x.kind = y.kind ∧ x.a = y.a ∧ x.b = y.b ∧ x.name = y.name ∧ x.text = y.text ∧ x.val.nz = y.val.nz := by
  obtain ⟨a1, a2, a3, a4, a5, a6, a7, a8⟩ := x
  obtain ⟨b1, b2, b3, b4, b5, b6, b7, b8⟩ := y
  simp [Ev.nz]
theorem Cm.ext_nz {x y : Cm} : x.nz = y.nz ↔ x.kind = y.kind ∧ x.time = y.time ∧ x.a = y.a ∧ x.b = y.b ∧ x.name = y.name ∧ x.val.nz = y.val.nz := by
  obtain ⟨a1, a2, a3, a4, a5, a6⟩ := x
  obtain ⟨b1, b2, b3, b4, b5, b6⟩ := y
  simp [Cm.nz]
theorem Ev.same_nz {x y : Ev} (hx : x.val.Kin) : x.same y = true ↔ x.nz = y.nz := by
  rw [Ev.ext_nz]
  unfold Ev.same
  simp only [Bool.and_eq_true, beq_iff_eq, decide_eq_true_eq, cmp_zero x.val hx y.val, and_assoc]
theorem Cm.same_nz {x y : Cm} (hx : x.val.Kin) : x.same y = true ↔ x.nz = y.nz := by
  rw [Cm.ext_nz]
  unfold Cm.same
  simp only [Bool.and_eq_true, beq_iff_eq, decide_eq_true_eq, cmp_zero x.val hx y.val, and_assoc]
theorem bool_iff {a b : Bool} (h : a = true ↔ b = true) : a = b := by cases a <;> cases b <;> simp_all
theorem Ev.same_ln {x y : Ev} (hx : x.Num) (hy : y.Num) (ex : x.vE = 0) (ey : y.vE = 0) : x.same y = decide (x.ln = y.ln) := by
  apply bool_iff
  rw [Ev.same_nz (fine (Ev.fits ex).val.1).kin, decide_eq_true_eq]
  exact ⟨fun h => by rw [← nz_ln x, h, nz_ln y], fun h => ln_inj hx hy ex ey h⟩
theorem Cm.same_ln {x y : Cm} (hx : x.Num) (hy : y.Num) (ex : x.vE = 0) (ey : y.vE = 0) : x.same y = decide (x.ln = y.ln) := by
  apply bool_iff
  rw [Cm.same_nz (fine (Cm.fits ex).val.1).kin, decide_eq_true_eq]
  exact ⟨fun h => by rw [← cnz_ln x, h, cnz_ln y], fun h => cln_inj hx hy ex ey h⟩
/-- A tick and some more. -/
def sat (now ticks : Int) : Int := if now < 0 ∨ ticks < 0 then 0 else if 4611686018427387903 - ticks < now then 4611686018427387903 else now + ticks
def eK (k : Int) : Int := if k = 1 then 11 else if k = 2 then 13 else if k = 3 then 7 else if k = 4 then 16 else if k = 5 then 17 else if k = 6 then 21 else 0
/-- The event that is written of a command. -/
def Cm.ev (c : Cm) (id : Int) : Ev := ⟨id, c.time, eK c.kind, c.a, if c.kind = 1 then sat c.time c.b else c.b, c.name, [], c.val⟩
theorem eK_cases {k : Int} (h : 1 ≤ k ∧ k ≤ 6) : (k = 1 ∧ eK k = 11) ∨ (k = 2 ∧ eK k = 13) ∨ (k = 3 ∧ eK k = 7) ∨ (k = 4 ∧ eK k = 16) ∨ (k = 5 ∧ eK k = 17) ∨ (k = 6 ∧ eK k = 21) := by
  obtain rfl | rfl | rfl | rfl | rfl | rfl : k = 1 ∨ k = 2 ∨ k = 3 ∨ k = 4 ∨ k = 5 ∨ k = 6 := by omega
  all_goals simp [eK]
theorem eK_inj {k q : Int} (hk : 1 ≤ k ∧ k ≤ 6) (hq : 1 ≤ q ∧ q ≤ 6) (h : eK k = eK q) : k = q := by
  have a := eK_cases hk
  have b := eK_cases hq
  omega
theorem sat_ok {t b : Int} (ht : 0 ≤ t ∧ t ≤ 4611686018427387903) (hb : 0 ≤ b) : 0 ≤ sat t b ∧ sat t b ≤ 4611686018427387903 := by
  unfold sat
  rw [if_neg (by omega)]
  split <;> omega
theorem sat_of {t b : Int} (ht : 0 ≤ t ∧ t ≤ 4611686018427387903) (hb : 0 ≤ b) : sat t b = if 4611686018427387903 - b < t then 4611686018427387903 else t + b := by
  unfold sat
  rw [if_neg (by omega)]
theorem sat_eq {t b b' : Int} (ht : 0 ≤ t ∧ t ≤ 4611686018427387903) (hb : 0 ≤ b) (hb' : 0 ≤ b') (h : sat t b = sat t b') : b = b' ∨ sat t b = 4611686018427387903 := by
  rw [sat_of ht hb] at h ⊢
  rw [sat_of ht hb'] at h
  by_cases h1 : 4611686018427387903 - b < t
  · rw [if_pos h1]; exact .inr rfl
  · rw [if_neg h1] at h ⊢
    by_cases h2 : 4611686018427387903 - b' < t
    · rw [if_pos h2] at h; exact .inr h
    · rw [if_neg h2] at h; exact .inl (by omega)
theorem flags {k : Int} (h : 1 ≤ k ∧ k ≤ 6) : eKn (eK k) = true ∧ (cA k = true → eA (eK k) = true) ∧ (cB k = true → eB (eK k) = true) ∧ (k = 1 → eB (eK k) = true) ∧ (cN k = true → eN (eK k) = true) ∧ (cV k = true → eV (eK k) = true) := by
  obtain rfl | rfl | rfl | rfl | rfl | rfl : k = 1 ∨ k = 2 ∨ k = 3 ∨ k = 4 ∨ k = 5 ∨ k = 6 := by omega
  all_goals decide
theorem eOk_of {n : Int} {c d : Bool} (h : 0 ≤ n) (hc : c = false → n = 0) (hd : c = true → d = true) : eOk n d = true := by
  unfold eOk
  cases c with
  | false => rw [hc rfl]; rfl
  | true =>
    rw [hd rfl]
    by_cases hn : n = 0
    · simp [hn]
    · have : 0 < n := by omega
      simp [this]
theorem ev_ok {c : Cm} {id : Int} (h : c.vE = 0) (hi : 1 ≤ id ∧ id ≤ 1048576) : (c.ev id).vE = 0 := by
  have F := Cm.fits h
  obtain ⟨k1, k2, k3, k4, k5, k6⟩ := flags F.kn
  have ht := F.time
  have hb : 0 ≤ (c.ev id).b ∧ eOk (c.ev id).b (eB (eK c.kind)) = true := by
    show 0 ≤ (if c.kind = 1 then sat c.time c.b else c.b) ∧ eOk (if c.kind = 1 then sat c.time c.b else c.b) _ = true
    by_cases hk : c.kind = 1
    · rw [if_pos hk]
      have := sat_ok F.time F.b.1
      refine ⟨this.1, eOk_of (c := true) this.1 (by simp) fun _ => k4 hk⟩
    · rw [if_neg hk]
      exact ⟨F.b.1, eOk_of F.b.1 F.b.2 k3⟩
  have hr : (c.ev id).rng = true := by
    unfold Ev.rng
    simp only [Bool.and_eq_true, decide_eq_true_eq]
    exact ⟨⟨⟨⟨⟨hi.1, hi.2⟩, ht.1⟩, ht.2⟩, eOk_of F.a.1 F.a.2 k2⟩, hb.2⟩
  unfold Ev.vE
  rw [if_neg (by rw [show (c.ev id).kind = eK c.kind from rfl, k1]; simp), if_neg (by rw [hr]; simp), if_neg, if_neg]
  · exact F.val.1
  · rintro (⟨h1, h2⟩ | ⟨h1, h2⟩ | ⟨h1, h2⟩)
    · have hc : cN c.kind = false := by
        cases hc : cN c.kind with
        | false => rfl
        | true => rw [show eN (c.ev id).kind = eN (eK c.kind) from rfl, k5 hc] at h2; cases h2
      exact h1 (F.name.2 hc)
    · exact h1 rfl
    · have hc : cV c.kind = false := by
        cases hc : cV c.kind with
        | false => rfl
        | true => rw [show eV (c.ev id).kind = eV (eK c.kind) from rfl, k6 hc] at h2; cases h2
      have hz := F.val.2 hc
      have : c.val.kd = 0 := by rw [← nz_kdE, hz]; rfl
      exact h1 this
  · have h1 : (c.ev id).name = c.name := rfl
    have h2 : (c.ev id).text = [] := rfl
    have := F.name.1
    rw [h1, h2]
    simp
    omega
/-- What Fits says. -/
def Cm.fitsE (c : Cm) (e : Ev) : Bool :=
  let w := c.ev e.id
  (if w.kind = 21 then { w with b := e.b } else w).same e
theorem fits_ev {a b : Cm} {id : Int} (ha : a.vE = 0) (hb : b.vE = 0) : b.fitsE (a.ev id) = (b.ev id).same (a.ev id) := by
  have F := Cm.fits ha
  have G := Cm.fits hb
  unfold Cm.fitsE
  dsimp only
  rw [show (a.ev id).id = id from rfl]
  by_cases hk : (b.ev id).kind = 21
  · rw [if_pos hk]
    have hk6 : b.kind = 6 := by have := eK_cases G.kn; have h : eK b.kind = 21 := hk; omega
    have hbb : (b.ev id).b = 0 := by
      show (if b.kind = 1 then _ else b.b) = 0
      rw [if_neg (by omega)]
      exact G.b.2 (by rw [hk6]; rfl)
    by_cases hq : a.kind = 6
    · have hab : (a.ev id).b = 0 := by
        show (if a.kind = 1 then _ else a.b) = 0
        rw [if_neg (by omega)]
        exact F.b.2 (by rw [hq]; rfl)
      unfold Ev.same
      dsimp only
      rw [hab, hbb]
    · have hne : ((b.ev id).kind == (a.ev id).kind) = false := by
        have := eK_cases F.kn
        have h : ¬ (b.ev id).kind = (a.ev id).kind := by
          rw [hk]
          show ¬ (21 : Int) = eK a.kind
          omega
        simpa using h
      unfold Ev.same
      dsimp only
      rw [hne]
      simp
  · rw [if_neg hk]
theorem same_ev {a b : Cm} {id : Int} (ha : a.vE = 0) (hb : b.vE = 0) (h : (b.ev id).same (a.ev id) = true) : a.same b = true ∨ (a.kind = 1 ∧ (a.ev id).b = 4611686018427387903) := by
  have F := Cm.fits ha
  have G := Cm.fits hb
  rw [Ev.same_nz (show (b.ev id).val.Kin from (fine G.val.1).kin), Ev.ext_nz] at h
  obtain ⟨_, h2, h3, h4, h5, h6, _, h8⟩ := h
  have hk : b.kind = a.kind := eK_inj G.kn F.kn h3
  have h5 : (if b.kind = 1 then sat b.time b.b else b.b) = (if a.kind = 1 then sat a.time a.b else a.b) := h5
  have h2 : b.time = a.time := h2
  rw [hk, h2] at h5
  have key : ∀ (hbb : b.b = a.b), a.same b = true := fun hbb => (Cm.same_nz (fine F.val.1).kin).2 (Cm.ext_nz.2 ⟨hk.symm, h2.symm, Eq.symm h4, hbb.symm, Eq.symm h6, Eq.symm h8⟩)
  by_cases h1 : a.kind = 1
  · rw [if_pos h1, if_pos h1] at h5
    rcases sat_eq F.time G.b.1 F.b.1 h5 with e | e
    · exact .inl (key e)
    · refine .inr ⟨h1, ?_⟩
      show (if a.kind = 1 then sat a.time a.b else a.b) = _
      rw [if_pos h1, ← h5, e]
  · rw [if_neg h1, if_neg h1] at h5
    exact .inl (key h5)
theorem same_ev_of {a b : Cm} {id : Int} (ha : a.vE = 0) (hb : b.vE = 0) (h : a.same b = true) : (b.ev id).same (a.ev id) = true := by
  rw [Cm.same_nz (fine (Cm.fits ha).val.1).kin, Cm.ext_nz] at h
  obtain ⟨h1, h2, h3, h4, h5, h6⟩ := h
  rw [Ev.same_nz (show (b.ev id).val.Kin from (fine (Cm.fits hb).val.1).kin), Ev.ext_nz]
  refine ⟨rfl, h2.symm, ?_, h3.symm, ?_, h5.symm, rfl, h6.symm⟩
  · show eK b.kind = eK a.kind
    rw [h1]
  · show (if b.kind = 1 then sat b.time b.b else b.b) = (if a.kind = 1 then sat a.time a.b else a.b)
    rw [h1, h2, h4]
def eTask (k : Int) : Bool := k == 2 || k == 3 || k == 5 || k == 6
/-- What erasing leaves, numbered from n on. -/
def erE : Int → List Ev → List Ev
  | _, [] => []
  | n, x :: l => if eTask x.kind = true then erE n l else { x with id := n } :: erE (n + 1) l
theorem erE_idem : ∀ (l : List Ev) (n m : Int), erE n (erE m l) = erE n l
  | [], n, m => rfl
  | x :: l, n, m => by
    rw [erE, erE]
    by_cases h : eTask x.kind = true
    · rw [if_pos h, if_pos h]
      exact erE_idem l n m
    · rw [if_neg h, if_neg h, erE, if_neg h, erE_idem l (n + 1) (m + 1)]
end Go.Proofs.YtnfobnnbeefeeaaGreatDoor.Wi
/- What is read behind other bytes is read as if they weren't there. -/
namespace Go.Proofs.YtnfobnnbeefeeaaGreatDoor.Wi
open Go Go.RowKit
set_option linter.unusedVariables false
set_option linter.unusedSimpArgs false
def sh {α : Type} (n : Nat) (r : α × Nat × Int) : α × Nat × Int := (r.1, n + r.2.1, r.2.2)
theorem rb_sh (a m : List UInt8) (k : Nat) (e : Int) : rb (a ++ m) (a.length + k) e = sh a.length (rb m k e) := by
  unfold rb sh
  by_cases he : e ≠ 0
  · rw [if_pos he, if_pos he]
  rw [if_neg he, if_neg he]
  by_cases hk : k < m.length
  · rw [if_pos (by rw [List.length_append]; omega), if_pos hk]
    have : (a ++ m).getD (a.length + k) 0 = m.getD k 0 := by
      rw [List.getD_eq_getElem?_getD, List.getD_eq_getElem?_getD, List.getElem?_append_right (by omega), show a.length + k - a.length = k by omega]
    rw [this]
    rfl
  · rw [if_neg (by rw [List.length_append]; omega), if_neg hk]
theorem dg_sh (a m : List UInt8) : ∀ (f k i n : Nat) (e : Int), dg f (a ++ m) (a.length + k) e i n = sh a.length (dg f m k e i n)
  | 0, k, i, n, e => rfl
  | f + 1, k, i, n, e => by
    rw [dg, dg]
    rw [rb_sh]
    obtain ⟨b, q, z⟩ := rb m k e
    unfold sh
    dsimp only
    generalize (if (bad i b.toNat && z == 0) = true then (8 : Int) else z) = e2
    generalize (n + (b.toNat % 128 * 2 ^ (7 * i)) % 18446744073709551616) % 18446744073709551616 = n2
    by_cases h : (decide (b.toNat < 128) || e2 != 0) = true
    · rw [if_pos h, if_pos h]
    · rw [if_neg h, if_neg h]
      exact dg_sh a m f _ _ _ _
theorem rn_sh (a m : List UInt8) (k most : Nat) (e : Int) : rn (a ++ m) (a.length + k) e most = sh a.length (rn m k e most) := by
  unfold rn
  dsimp only
  rw [dg_sh]
  rfl
theorem nx_sh (a m : List UInt8) (k n : Nat) (e : Int) : nx (a ++ m) (a.length + k) e n = sh a.length (nx m k e n) := by
  unfold nx sh
  have hd : (a ++ m).drop (a.length + k) = m.drop k := by rw [← List.drop_drop, List.drop_left' rfl]
  have hc : (a.length + k + n ≤ (a ++ m).length) = (k + n ≤ m.length) := by
    apply propext
    rw [List.length_append]
    omega
  rw [hd]
  simp only [hc]
  by_cases he : e ≠ 0
  · rw [if_pos he, if_pos he]
  rw [if_neg he, if_neg he]
  by_cases h : k + n ≤ m.length
  · rw [if_pos h, if_pos h]
    simp only [Nat.add_assoc]
  · rw [if_neg h, if_neg h]
theorem rt_sh (a m : List UInt8) (k : Nat) (e : Int) : rt (a ++ m) (a.length + k) e = sh a.length (rt m k e) := by
  unfold rt
  rw [rn_sh]
  exact nx_sh a m _ _ _
def sh4 {α β : Type} (n : Nat) (r : α × β × Nat × Int) : α × β × Nat × Int := (r.1, r.2.1, n + r.2.2.1, r.2.2.2)
theorem dLoop_sh (n : Nat) {g g' : Nat → Nat → Int → VT × Nat × Nat × Int} (hg : ∀ p k e, g p (n + k) e = sh4 n (g' p k e)) : ∀ (c p k : Nat) (e : Int), dLoop g c p (n + k) e = sh4 n (dLoop g' c p k e)
  | 0, p, k, e => rfl
  | c + 1, p, k, e => by
    rw [dLoop, dLoop]
    split
    · rfl
    · rw [hg]
      unfold sh4
      dsimp only
      rw [dLoop_sh n hg c]
      rfl
theorem dV_sh (a m : List UInt8) : ∀ (f d p k : Nat) (e : Int), dV (a ++ m) f d p (a.length + k) e = sh4 a.length (dV m f d p k e)
  | 0, d, p, k, e => rfl
  | f + 1, d, p, k, e => by
    rw [dV, dV]
    dsimp only
    rw [rb_sh]
    unfold sh
    dsimp only
    split
    · rfl
    split
    · rw [rn_sh]; rfl
    split
    · rw [rt_sh]; rfl
    split
    · rw [rn_sh]
      unfold sh
      dsimp only
      rw [dLoop_sh a.length (fun p k e => dV_sh a m f (d + 1) p k e)]
      rfl
    · rfl
theorem rdV_sh (a m : List UInt8) (k : Nat) (e : Int) : rdV (a ++ m) (a.length + k) e = sh a.length (rdV m k e) := by
  unfold rdV
  dsimp only
  rw [dV_sh]
  unfold sh4 sh
  dsimp only
  have h : ((512 : Int) < ((a.length + (dV m 9 0 0 k e).2.2.1 : Nat) : Int) - ((a.length + k : Nat) : Int)) = ((512 : Int) < ((dV m 9 0 0 k e).2.2.1 : Int) - (k : Int)) := by
    apply propext
    omega
  simp only [h]
theorem rnI_sh (c : Bool) (a m : List UInt8) (k most : Nat) (e : Int) : rnI c (a ++ m) (a.length + k) e most = sh a.length (rnI c m k e most) := by
  cases c
  · rfl
  · exact rn_sh a m k most e
theorem rtI_sh (c : Bool) (a m : List UInt8) (k : Nat) (e : Int) : rtI c (a ++ m) (a.length + k) e = sh a.length (rtI c m k e) := by
  cases c
  · rfl
  · exact rt_sh a m k e
theorem rdI_sh (c : Bool) (a m : List UInt8) (k : Nat) (e : Int) : rdI c (a ++ m) (a.length + k) e = sh a.length (rdI c m k e) := by
  cases c
  · rfl
  · exact rdV_sh a m k e
/-- An event behind other bytes. -/
theorem evR_sh (a m : List UInt8) (k : Nat) (e : Int) : evR (a ++ m) (a.length + k) e = sh a.length (evR m k e) := by
  unfold evR
  dsimp only
  rw [rb_sh]
  unfold sh
  dsimp only
  rw [rn_sh]
  unfold sh
  dsimp only
  rw [rn_sh]
  unfold sh
  dsimp only
  rw [rnI_sh]
  unfold sh
  dsimp only
  rw [rnI_sh]
  unfold sh
  dsimp only
  rw [rtI_sh]
  unfold sh
  dsimp only
  rw [rtI_sh]
  unfold sh
  dsimp only
  rw [rdI_sh]
  rfl
end Go.Proofs.YtnfobnnbeefeeaaGreatDoor.Wi
