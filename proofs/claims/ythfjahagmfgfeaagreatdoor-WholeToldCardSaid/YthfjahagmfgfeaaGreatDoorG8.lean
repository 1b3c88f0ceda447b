/- The parser in memory: fail, take, next. -/
import Derived.Test.YthfjahagmfgfeaaGreatDoorG7
import Derived.Test.YthfjahagmfgfeaaGreatDoorG2
import Derived.Test.YthfjahagmfgfeaaGreatDoorSr
namespace Go.Proofs.YthfjahagmfgfeaaGreatDoor.Wi
open Go Go.RowKit
set_option linter.unusedVariables false
set_option linter.unusedSimpArgs false
/-- A parser at block b, at k of the text l, with the error e. -/
def PS (w : World) (b : Nat) (l : List UInt8) (k : Nat) (e : Int) : Prop := w.heap[b]? = some (.cells #[.string (str l), .int .i64 (k : Int), .int .i64 e] 87 (0, 0))
theorem PS.lt {w : World} {b : Nat} {l : List UInt8} {k : Nat} {e : Int} (h : PS w b l k e) : b < w.heap.size := lt_of_rowK h
theorem PS.c0 {w : World} {b : Nat} {l : List UInt8} {k : Nat} {e : Int} (h : PS w b l k e) : w.cell? ⟨b, 0, none⟩ = some (.string (str l)) := by rw [cell_of_rowW w b 0 _ _ _ h]; rfl
theorem PS.c1 {w : World} {b : Nat} {l : List UInt8} {k : Nat} {e : Int} (h : PS w b l k e) : w.cell? ⟨b, 1, none⟩ = some (.int .i64 (k : Int)) := by rw [cell_of_rowW w b 1 _ _ _ h]; rfl
theorem PS.c2 {w : World} {b : Nat} {l : List UInt8} {k : Nat} {e : Int} (h : PS w b l k e) : w.cell? ⟨b, 2, none⟩ = some (.int .i64 e) := by rw [cell_of_rowW w b 2 _ _ _ h]; rfl
theorem PS.fz {w : World} {b : Nat} {l : List UInt8} {k : Nat} {e : Int} (h : PS w b l k e) (i : Nat) : w.frozen? ⟨b, i, none⟩ = false := frozen_of_row w b i _ _ h
theorem PS.keep {w w' : World} {b : Nat} {l : List UInt8} {k : Nat} {e : Int} (h : PS w b l k e) (hb : w'.heap[b]? = w.heap[b]?) : PS w' b l k e := hb.trans h
theorem PS.setAt {w : World} {b : Nat} {l : List UInt8} {k : Nat} {e : Int} (h : PS w b l k e) (k' : Nat) : PS (w.setCell ⟨b, 1, none⟩ (.int .i64 (k' : Int))) b l k' e := Go.Joins.block_setCell (i := 1) h _
theorem PS.setErr {w : World} {b : Nat} {l : List UInt8} {k : Nat} {e : Int} (h : PS w b l k e) (e' : Int) : PS (w.setCell ⟨b, 2, none⟩ (.int .i64 e')) b l k e' := Go.Joins.block_setCell (i := 2) h _
/-- What a call on a parser leaves. -/
def PPost (w : World) (b : Nat) (l : List UInt8) (v : Value) (k : Nat) (e : Int) (en : Ending) (w' : World) : Prop := en = .returned v ∧ PS w' b l k e ∧ Fr w w' b none
theorem pfail_any {w : World} {b : Nat} {l : List UInt8} {k : Nat} {e : Int} (h : PS w b l k e) (e' : Int) : Calls Tryz.prog 63 #[.pointer (some ⟨b, 0, none⟩), .int .i64 e'] w fun en w' => en = .returned (.tuple #[]) ∧ PS w' b l k (fe e e') ∧ Fr w w' b none := by
  have c2 := h.c2
  have f2 := h.fz 2
  have R1 := Lib.hid (show PS (w.setCell ⟨b, 2, none⟩ (.int .i64 e')) b l k e' ∧ Fr w (w.setCell ⟨b, 2, none⟩ (.int .i64 e')) b none from ⟨h.setErr e', (Fr.refl _ _ _).set 2 _⟩)
  have R2 := Lib.hid (show PS w b l k e ∧ Fr w w b none from ⟨h, Fr.refl _ _ _⟩)
  clear h
  obtain ⟨F, hF⟩ : ∃ F, F = fe e e' := ⟨_, rfl⟩
  rw [← hF]
  unfold fe at hF
  have HF := Lib.hid hF
  clear hF
  by_cases he : e = 0
  · subst he
    obtain rfl : F = e' := HF.out.trans (if_pos rfl)
    go_enter Tryz.func63, Tryz.ntmps63
    go_wp2_with fail
    go_end0
    exact ⟨rfl, R1.out⟩
  · obtain rfl : F = e := HF.out.trans (if_neg he)
    have he2 : (F == 0) = false := by simpa using he
    go_enter Tryz.func63, Tryz.ntmps63
    go_wp2_with fail
    go_end0
    exact ⟨rfl, R2.out⟩
theorem str_extractV (l : List UInt8) (a b : Nat) : (str l).extract a b = str ((l.take b).drop a) := by
  simp [str, ByteArray.ext_iff, List.drop_take]
def tkV (p l : List UInt8) (k : Nat) : Bool := p.isPrefixOf (l.drop k)
def tkN (p l : List UInt8) (k : Nat) : Nat := if tkV p l k = true then k + p.length else k
theorem tkN_le {p l : List UInt8} {k : Nat} (hk : k ≤ l.length) : tkN p l k ≤ l.length := by
  unfold tkN
  by_cases h : tkV p l k = true
  · rw [if_pos h]
    have h2 := (List.isPrefixOf_iff_prefix.1 h).length_le
    rw [List.length_drop] at h2
    omega
  · rw [if_neg h]; exact hk
set_option maxHeartbeats 4000000 in
set_option maxRecDepth 100000 in
theorem ptake_any {w : World} {b : Nat} {l : List UInt8} {k : Nat} {e : Int} (h : PS w b l k e) (hk : k ≤ l.length) (hl : l.length ≤ 140737488355328) (p : List UInt8) :
    Calls Tryz.prog 87 #[.pointer (some ⟨b, 0, none⟩), .string (str p)] w fun en w' => en = .returned (.bool (tkV p l k)) ∧ PS w' b l (tkN p l k) e ∧ Fr w w' b none := by
  have hp : (tkV p l k = true → k + p.length ≤ l.length) := fun h => by
    have := tkN_le (p := p) hk
    unfold tkN at this
    rwa [if_pos h] at this
  have hz := str_sizeX l
  have hy := str_sizeX p
  have hx := str_extractV l k l.length
  rw [List.take_length] at hx
  have HP := Lib.hid (fun W => Tryz.strings_HasPrefix (str (l.drop k)) (str p) W)
  rw [show Lib.hasPrefix (str (l.drop k)).data.toList (str p).data.toList = tkV p l k by simp [Lib.hasPrefix, tkV, str]] at HP
  have H := Lib.hid h
  have c0 := h.c0
  have c1 := h.c1
  have f1 := h.fz 1
  obtain ⟨T, hT⟩ : ∃ T, T = tkV p l k := ⟨_, rfl⟩
  obtain ⟨M, hM⟩ : ∃ M, M = tkN p l k := ⟨_, rfl⟩
  rw [← hT] at HP hp
  rw [← hT, ← hM]
  unfold tkN at hM
  rw [← hT] at hM
  have HM := Lib.hid hM
  obtain ⟨S, hS⟩ : ∃ S, S = str l := ⟨_, rfl⟩
  obtain ⟨D, hD⟩ : ∃ D, D = str (l.drop k) := ⟨_, rfl⟩
  obtain ⟨Q, hQ⟩ : ∃ Q, Q = str p := ⟨_, rfl⟩
  rw [← hS] at c0 hz
  rw [← hS, ← hD] at hx
  rw [← hD, ← hQ] at HP
  rw [← hQ] at hy ⊢
  have k0 : (0 : Int) ≤ (k : Int) := by omega
  have k1 : (k : Int) ≤ (S.size : Int) := by omega
  have HPL := Lib.hid hp
  have hz2 : S.size = l.length := hz
  have HQ := Lib.hid (show ∀ m, Calls Tryz.prog 106 #[.string D, .string Q] (w.drewN m) fun en w' => en = .returned (.bool T) ∧ ∃ n, w' = w.drewN n from fun m => by
    exact (HP.out _).mono fun _ _ h => ⟨h.1, m, h.2⟩)
  clear HP
  clear hT hM hS hD hQ h hp hz2
  go_enter Tryz.func87, Tryz.ntmps87
  go_upto_region 1 with fail
  go_quiet ((go_at_call 106; exact HQ.out _))
  obtain ⟨wg, hwg⟩ : ∃ wg, wg = w.drewN nq := ⟨_, rfl⟩
  rw [← hwg]
  have HG := Lib.hid (show PS wg b l k e by rw [hwg]; exact H.out)
  have FG := Lib.hid (show Fr w wg b none by rw [hwg]; exact (Fr.refl w b none).drewN nq)
  have c1 := HG.out.c1
  have f1 := HG.out.fz 1
  clear hwg
  cases T
  · obtain rfl : M = k := HM.out.trans (if_neg (by decide))
    have RL := Lib.hid (show PS wg b l M e ∧ Fr w wg b none from ⟨HG.out, FG.out⟩)
    go_wp2_with fail
    go_ret
    exact ⟨rfl, RL.out⟩
  · have hm := HM.out.trans (if_pos rfl)
    have hkl := HPL.out rfl
    have RL := Lib.hid (show PS (wg.setCell ⟨b, 1, none⟩ (.int .i64 (M : Int))) b l M e ∧ Fr w (wg.setCell ⟨b, 1, none⟩ (.int .i64 (M : Int))) b none from ⟨HG.out.setAt M, FG.out.set 1 _⟩)
    have hmi : (M : Int) = (k : Int) + (p.length : Int) := by omega
    rw [hmi] at RL
    have b1 : -9223372036854775808 ≤ (k : Int) + (p.length : Int) ∧ (k : Int) + (p.length : Int) ≤ 9223372036854775807 := by omega
    clear hm hmi
    go_wp2_with fail
    go_ret
    exact ⟨rfl, RL.out⟩
/-- What next tells: the byte, how far, the error. -/
def nxV (l : List UInt8) (k : Nat) (e : Int) : UInt8 × Nat × Int := if k = l.length then (0, k, fe e 8) else (l.getD k 0, k + 1, e)
theorem nxV_le {l : List UInt8} {k : Nat} {e : Int} (hk : k ≤ l.length) : (nxV l k e).2.1 ≤ l.length := by
  unfold nxV
  by_cases h : k = l.length
  · rw [if_pos h]; exact hk
  · rw [if_neg h]; show k + 1 ≤ _; omega
def U8Post (w : World) (b : Nat) (l : List UInt8) (X : UInt8 × Nat × Int) (en : Ending) (w' : World) : Prop := en = .returned (.int .u8 (X.1.toNat : Int)) ∧ PS w' b l X.2.1 X.2.2 ∧ Fr w w' b none
set_option maxHeartbeats 4000000 in
set_option maxRecDepth 100000 in
theorem pnext_any {w : World} {b : Nat} {l : List UInt8} {k : Nat} {e : Int} (h : PS w b l k e) (hk : k ≤ l.length) (hl : l.length ≤ 140737488355328) :
    Calls Tryz.prog 122 #[.pointer (some ⟨b, 0, none⟩)] w (U8Post w b l (nxV l k e)) := by
  have hz := str_sizeX l
  have H := Lib.hid h
  have c0 := h.c0
  have c1 := h.c1
  have hat : ∀ h : k < (str l).size, (str l)[k]'h = l.getD k 0 := fun h => by rw [Lib.getD_at (str l) k h]; simp [str]
  obtain ⟨S, hS⟩ : ∃ S, S = str l := ⟨_, rfl⟩
  rw [← hS] at c0 hz hat
  have HAT := Lib.hid hat
  have HS := Lib.hid hS
  obtain ⟨X, hX⟩ : ∃ X, X = nxV l k e := ⟨_, rfl⟩
  rw [← hX]
  unfold nxV at hX
  have HX := Lib.hid hX
  have k0 : (0 : Int) ≤ (k : Int) := by omega
  clear h hS hX hat
  by_cases hkl : k = l.length
  · have hx := HX.out.trans (if_pos hkl)
    have kk : ((k : Int) == (l.length : Int)) = true := by rw [beq_iff_eq]; omega
    subst hx
    have PF := Lib.hid (fun (W : World) (hp : PS W b l k e) => pfail_any hp 8)
    clear HX
    go_enter Tryz.func122, Tryz.ntmps122
    go_upto_region 1 with fail
    go_quiet (fail)
    obtain ⟨wg, hwg⟩ : ∃ wg, wg = w.drewN nq := ⟨_, rfl⟩
    rw [← hwg]
    have HG := Lib.hid (show PS wg b l k e by rw [hwg]; exact H.out)
    have FG := Lib.hid (show Fr w wg b none by rw [hwg]; exact (Fr.refl w b none).drewN nq)
    have PG := Lib.hid (PF.out wg HG.out)
    clear hwg
    go_wp2_with fail
    refine PG.out.mono ?_
    rintro en w2 ⟨rfl, hp2, hf2⟩
    have RL := Lib.hid (show PS w2 b l k (fe e 8) ∧ Fr w w2 b none from ⟨hp2, FG.out.trans (Or.inl rfl) hf2⟩)
    clear hp2 hf2
    go_wp2_with fail
    go_ret
    exact ⟨rfl, RL.out⟩
  · have hx := HX.out.trans (if_neg hkl)
    have kk : ((k : Int) == (l.length : Int)) = false := by rw [beq_eq_false_iff_ne]; omega
    subst hx
    clear HX
    go_enter Tryz.func122, Tryz.ntmps122
    go_upto_region 1 with fail
    go_quiet (fail)
    obtain ⟨wg, hwg⟩ : ∃ wg, wg = w.drewN nq := ⟨_, rfl⟩
    rw [← hwg]
    have HG := Lib.hid (show PS wg b l k e by rw [hwg]; exact H.out)
    have FG := Lib.hid (show Fr w wg b none by rw [hwg]; exact (Fr.refl w b none).drewN nq)
    have d1 := HG.out.c1
    have f1 := HG.out.fz 1
    have b1 : -9223372036854775808 ≤ (k : Int) + 1 ∧ (k : Int) + 1 ≤ 9223372036854775807 := by omega
    clear hwg c0 c1
    go_upto_region 5 with fail
    have ek : (k : Int) + 1 = ((k + 1 : Nat) : Int) := rfl
    obtain ⟨w2, hw2⟩ : ∃ w2, w2 = wg.setCell ⟨b, 1, none⟩ (.int .i64 ((k : Int) + 1)) := ⟨_, rfl⟩
    rw [← hw2]
    have H2 := Lib.hid (show PS w2 b l (k + 1) e by rw [hw2, ek]; exact HG.out.setAt (k + 1))
    have F2 := Lib.hid (show Fr w w2 b none by rw [hw2]; exact FG.out.set 1 _)
    obtain ⟨j, hj⟩ : ∃ j, j = k + 1 := ⟨_, rfl⟩
    rw [← hj] at H2
    have d0 := H2.out.c0
    have d1 := H2.out.c1
    rw [← HS.out] at d0
    have hjk : (j : Int) - 1 = (k : Int) := by omega
    have b2 : -9223372036854775808 ≤ (j : Int) - 1 ∧ (j : Int) - 1 ≤ 9223372036854775807 := by omega
    have hw : IntKind.i64.wrap ((j : Int) - 1) = (k : Int) := by
      rw [IntKind.wrap_i64]; omega
    have hkS : (k : Int) < (S.size : Int) := by omega
    obtain ⟨c, hc⟩ : ∃ c, c = l.getD k 0 := ⟨_, rfl⟩
    have hcc : ∀ h : k < S.size, S[k]'h = c := fun h => (HAT.out h).trans hc.symm
    have HC := Lib.hid hc
    have HJ := Lib.hid hj
    clear hw2 hj hc b1
    go_quiet (fail)
    have RL := Lib.hid (show U8Post w b l (l.getD k 0, k + 1, e) (.returned (.int .u8 (c.toNat : Int))) (w2.drewN nq) from ⟨by rw [HC.out], by rw [← HJ.out]; exact H2.out, F2.out.drewN nq⟩)
    go_wp2_with fail
    go_ret
    exact RL.out
end Go.Proofs.YthfjahagmfgfeaaGreatDoor.Wi
/- The parser's hexDigit, char. -/
namespace Go.Proofs.YthfjahagmfgfeaaGreatDoor.Wi
open Go Go.RowKit
set_option linter.unusedVariables false
set_option linter.unusedSimpArgs false
def hexL : List UInt8 := [48, 49, 50, 51, 52, 53, 54, 55, 56, 57, 97, 98, 99, 100, 101, 102]
def hxi (c : UInt8) : Int := Lib.indexByte hexL c
theorem hxi_all : ∀ c : Fin 256, -1 ≤ hxi (UInt8.ofNat c.val) ∧ hxi (UInt8.ofNat c.val) < 16 := by decide +kernel
theorem hxi_lt (c : UInt8) : -1 ≤ hxi c ∧ hxi c < 16 := by
  have h := hxi_all ⟨c.toNat, c.toNat_lt⟩
  simpa using h
def hxV (l : List UInt8) (k : Nat) (e : Int) : UInt8 × Nat × Int :=
  let X := nxV l k e
  if hxi X.1 < 0 then (0, X.2.1, fe X.2.2 8) else (UInt8.ofNat (hxi X.1).toNat, X.2.1, X.2.2)
theorem hxV_le {l : List UInt8} {k : Nat} {e : Int} (hk : k ≤ l.length) : (hxV l k e).2.1 ≤ l.length := by
  have h := nxV_le (e := e) hk
  unfold hxV
  dsimp only
  by_cases h2 : hxi (nxV l k e).1 < 0
  · rw [if_pos h2]; exact h
  · rw [if_neg h2]; exact h
theorem hxV_lt (l : List UInt8) (k : Nat) (e : Int) : (hxV l k e).1.toNat < 16 := by
  unfold hxV
  dsimp only
  have h := hxi_lt (nxV l k e).1
  by_cases h2 : hxi (nxV l k e).1 < 0
  · rw [if_pos h2]; show (0 : UInt8).toNat < 16; decide
  · rw [if_neg h2]
    show (UInt8.ofNat (hxi (nxV l k e).1).toNat).toNat < 16
    rw [UInt8.toNat_ofNat']
    omega
set_option maxHeartbeats 4000000 in
set_option maxRecDepth 100000 in
theorem phex_any {w : World} {b : Nat} {l : List UInt8} {k : Nat} {e : Int} (h : PS w b l k e) (hk : k ≤ l.length) (hl : l.length ≤ 140737488355328) :
    Calls Tryz.prog 123 #[.pointer (some ⟨b, 0, none⟩)] w (U8Post w b l (hxV l k e)) := by
  have NX := Lib.hid (pnext_any h hk hl)
  obtain ⟨Z, hZ⟩ : ∃ Z, Z = hxV l k e := ⟨_, rfl⟩
  rw [← hZ]
  unfold hxV at hZ
  dsimp only at hZ
  obtain ⟨X, hX⟩ : ∃ X, X = nxV l k e := ⟨_, rfl⟩
  rw [← hX] at NX hZ
  obtain ⟨xc, xk, xe⟩ := X
  dsimp only at hZ
  have IB := Lib.hid (fun W => Tryz.strings_IndexByte ⟨#[48, 49, 50, 51, 52, 53, 54, 55, 56, 57, 97, 98, 99, 100, 101, 102]⟩ (xc.toNat : Int) W)
  rw [show Lib.indexByte (ByteArray.mk #[48, 49, 50, 51, 52, 53, 54, 55, 56, 57, 97, 98, 99, 100, 101, 102]).data.toList (xc.toNat : Int).toNat.toUInt8 = hxi xc by simp [hxi, hexL]] at IB
  have hb := hxi_lt xc
  obtain ⟨d, hd⟩ : ∃ d, d = hxi xc := ⟨_, rfl⟩
  rw [← hd] at hZ IB hb
  have HZ := Lib.hid hZ
  obtain ⟨m, hm⟩ : ∃ m : Nat, m = xc.toNat := ⟨_, rfl⟩
  rw [← hm] at IB
  have HM := Lib.hid hm
  clear h hZ hX hd hm
  go_enter Tryz.func123, Tryz.ntmps123
  go_wp2_with fail
  refine NX.out.mono ?_
  rintro en w2 ⟨rfl, hp2, hf2⟩
  dsimp only at hp2 ⊢
  rw [← HM.out]
  have HP2 := Lib.hid hp2
  have HF2 := Lib.hid hf2
  have PF := Lib.hid (pfail_any hp2 8)
  clear hp2 hf2
  go_wp2_with fail
  refine (IB.out _).mono ?_
  rintro en w3 ⟨rfl, hw3⟩
  subst hw3
  by_cases hd0 : d < 0
  · have hz := HZ.out.trans (if_pos hd0)
    subst hz
    go_wp2_with fail
    refine PF.out.mono ?_
    rintro en w4 ⟨rfl, hp4, hf4⟩
    have RL := Lib.hid (show U8Post w b l (0, xk, fe xe 8) (.returned (.int .u8 0)) w4 from ⟨rfl, hp4, HF2.out.trans (Or.inl rfl) hf4⟩)
    clear hp4 hf4
    go_wp2_with fail
    go_ret
    exact RL.out
  · have hz := HZ.out.trans (if_neg hd0)
    subst hz
    have e1 : d % 256 = d := by omega
    have RL := Lib.hid (show U8Post w b l (UInt8.ofNat d.toNat, xk, xe) (.returned (.int .u8 d)) w3 from ⟨by
      show Ending.returned (.int .u8 d) = .returned (.int .u8 ((UInt8.ofNat d.toNat).toNat : Int))
      rw [UInt8.toNat_ofNat', show ((d.toNat % 2 ^ 8 : Nat) : Int) = d by omega], HP2.out, HF2.out⟩)
    go_wp2_with fail
    go_ret
    exact RL.out
def chV (l : List UInt8) (k : Nat) (e : Int) : UInt8 × Nat × Int :=
  let X := nxV l k e
  if X.1 ≠ 92 then X else
    let Y := nxV l X.2.1 X.2.2
    if Y.1 ≠ 120 then Y else
      let A := hxV l Y.2.1 Y.2.2
      let B := hxV l A.2.1 A.2.2
      (A.1 * 16 + B.1, B.2.1, B.2.2)
theorem chV_le {l : List UInt8} {k : Nat} {e : Int} (hk : k ≤ l.length) : (chV l k e).2.1 ≤ l.length := by
  have h1 := nxV_le (e := e) hk
  have h2 := nxV_le (l := l) (e := (nxV l k e).2.2) h1
  have h3 := hxV_le (l := l) (e := (nxV l (nxV l k e).2.1 (nxV l k e).2.2).2.2) h2
  have h4 := hxV_le (l := l) (e := (hxV l (nxV l (nxV l k e).2.1 (nxV l k e).2.2).2.1 (nxV l (nxV l k e).2.1 (nxV l k e).2.2).2.2).2.2) h3
  unfold chV
  dsimp only
  split
  · exact h1
  · split
    · exact h2
    · exact h4
set_option maxHeartbeats 4000000 in
set_option maxRecDepth 100000 in
theorem pchar_any {w : World} {b : Nat} {l : List UInt8} {k : Nat} {e : Int} (h : PS w b l k e) (hk : k ≤ l.length) (hl : l.length ≤ 140737488355328) :
    Calls Tryz.prog 107 #[.pointer (some ⟨b, 0, none⟩)] w (U8Post w b l (chV l k e)) := by
  have NX := Lib.hid (pnext_any h hk hl)
  have hXl := nxV_le (e := e) hk
  obtain ⟨Z, hZ⟩ : ∃ Z, Z = chV l k e := ⟨_, rfl⟩
  rw [← hZ]
  unfold chV at hZ
  dsimp only at hZ
  obtain ⟨X, hX⟩ : ∃ X, X = nxV l k e := ⟨_, rfl⟩
  rw [← hX] at NX hZ hXl
  obtain ⟨xc, xk, xe⟩ := X
  dsimp only at hZ hXl
  have hYl := nxV_le (e := xe) hXl
  have NY := Lib.hid (fun (W : World) (hp : PS W b l xk xe) => pnext_any hp hXl hl)
  obtain ⟨Y, hY⟩ : ∃ Y, Y = nxV l xk xe := ⟨_, rfl⟩
  rw [← hY] at NY hZ hYl
  obtain ⟨yc, yk, ye⟩ := Y
  dsimp only at hZ hYl
  have hAl := hxV_le (e := ye) hYl
  have ha := hxV_lt l yk ye
  have NA := Lib.hid (fun (W : World) (hp : PS W b l yk ye) => phex_any hp hYl hl)
  obtain ⟨A, hA⟩ : ∃ A, A = hxV l yk ye := ⟨_, rfl⟩
  rw [← hA] at NA hZ hAl ha
  obtain ⟨ac, ak, ae⟩ := A
  dsimp only at hZ hAl ha
  have hb := hxV_lt l ak ae
  have NB := Lib.hid (fun (W : World) (hp : PS W b l ak ae) => phex_any hp hAl hl)
  obtain ⟨B, hB⟩ : ∃ B, B = hxV l ak ae := ⟨_, rfl⟩
  rw [← hB] at NB hZ hb
  obtain ⟨bc, bk, be⟩ := B
  dsimp only at hZ hb
  have HZ := Lib.hid hZ
  obtain ⟨m, hm⟩ : ∃ m : Nat, m = xc.toNat := ⟨_, rfl⟩
  obtain ⟨n, hn⟩ : ∃ n : Nat, n = yc.toNat := ⟨_, rfl⟩
  obtain ⟨p, hp⟩ : ∃ p : Nat, p = ac.toNat := ⟨_, rfl⟩
  obtain ⟨q, hq⟩ : ∃ q : Nat, q = bc.toNat := ⟨_, rfl⟩
  have HM := Lib.hid hm
  have HN := Lib.hid hn
  have HP := Lib.hid hp
  have HQ := Lib.hid hq
  rw [← hp] at ha
  rw [← hq] at hb
  clear h hZ hX hY hA hB hm hn hp hq hXl hYl hAl
  go_enter Tryz.func107, Tryz.ntmps107
  go_wp2_with fail
  refine NX.out.mono ?_
  rintro en w2 ⟨rfl, hp2, hf2⟩
  dsimp only at hp2 ⊢
  rw [← HM.out]
  have HP2 := Lib.hid hp2
  have HF2 := Lib.hid hf2
  have CY := Lib.hid (NY.out w2 hp2)
  clear hp2 hf2 NX NY
  by_cases h1 : m = 92
  · have hz := HZ.out.trans (if_neg (not_not_intro (by have := HM.out; exact UInt8.toNat_inj.1 (by rw [← this, h1]; rfl))))
    have HZ2 := Lib.hid hz
    clear hz HZ
    subst h1
    go_wp2_with fail
    refine CY.out.mono ?_
    rintro en w3 ⟨rfl, hp3, hf3⟩
    dsimp only at hp3 ⊢
    rw [← HN.out]
    have HP3 := Lib.hid hp3
    have HF3 := Lib.hid (HF2.out.trans (Or.inl rfl) hf3)
    have CA := Lib.hid (NA.out w3 hp3)
    clear hp3 hf3 NA
    by_cases h2 : n = 120
    · have hz := HZ2.out.trans (if_neg (not_not_intro (by have := HN.out; exact UInt8.toNat_inj.1 (by rw [← this, h2]; rfl))))
      subst h2
      subst hz
      go_wp2_with fail
      refine CA.out.mono ?_
      rintro en w4 ⟨rfl, hp4, hf4⟩
      dsimp only at hp4 ⊢
      rw [← HP.out]
      have HF4 := Lib.hid (HF3.out.trans (Or.inl rfl) hf4)
      have CB := Lib.hid (NB.out w4 hp4)
      clear hp4 hf4 NB
      have b1 : 0 ≤ (p : Int) * 16 ∧ (p : Int) * 16 ≤ 255 := by omega
      go_wp2_with fail
      refine CB.out.mono ?_
      rintro en w5 ⟨rfl, hp5, hf5⟩
      dsimp only at hp5 ⊢
      rw [← HQ.out]
      have RL := Lib.hid (show U8Post w b l (ac * 16 + bc, bk, be) (.returned (.int .u8 ((p : Int) * 16 + (q : Int)))) w5 from ⟨by
        show Ending.returned (.int .u8 ((p : Int) * 16 + (q : Int))) = .returned (.int .u8 ((ac * 16 + bc).toNat : Int))
        rw [UInt8.toNat_add, UInt8.toNat_mul, ← HP.out, ← HQ.out, show (16 : UInt8).toNat = 16 from rfl, show (((p * 16 % 2 ^ 8 + q) % 2 ^ 8 : Nat) : Int) = (p : Int) * 16 + (q : Int) by omega], hp5, HF4.out.trans (Or.inl rfl) hf5⟩)
      have b2 : 0 ≤ (p : Int) * 16 + (q : Int) ∧ (p : Int) * 16 + (q : Int) ≤ 255 := by omega
      clear hp5 hf5
      go_wp2_with fail
      go_ret
      exact RL.out
    · have hz := HZ2.out.trans (if_pos (fun e => h2 (by rw [HN.out, e]; rfl)))
      subst hz
      have e2 : ((n : Int) != 120) = true := by simp; omega
      have RL := Lib.hid (show U8Post w b l (yc, yk, ye) (.returned (.int .u8 (n : Int))) w3 from ⟨by rw [HN.out], HP3.out, HF3.out⟩)
      go_wp2_with fail
      go_ret
      exact RL.out
  · have hz := HZ.out.trans (if_pos (fun e => h1 (by rw [HM.out, e]; rfl)))
    subst hz
    have e2 : ((m : Int) != 92) = true := by simp; omega
    have RL := Lib.hid (show U8Post w b l (xc, xk, xe) (.returned (.int .u8 (m : Int))) w2 from ⟨by rw [HM.out], HP2.out, HF2.out⟩)
    go_wp2_with fail
    go_ret
    exact RL.out
end Go.Proofs.YthfjahagmfgfeaaGreatDoor.Wi
/- The parser's text. -/
namespace Go.Proofs.YthfjahagmfgfeaaGreatDoor.Wi
open Go Go.RowKit
set_option linter.unusedVariables false
set_option linter.unusedSimpArgs false
def kOf (w : World) (b : Nat) : Nat := match w.cell? ⟨b, 1, none⟩ with | some (.int _ i) => i.toNat | _ => 0
def eOf (w : World) (b : Nat) : Int := match w.cell? ⟨b, 2, none⟩ with | some (.int _ i) => i | _ => 0
theorem PS.kOf {w : World} {b : Nat} {l : List UInt8} {k : Nat} {e : Int} (h : PS w b l k e) : kOf w b = k := by unfold Wi.kOf; rw [h.c1]; simp
theorem PS.eOf {w : World} {b : Nat} {l : List UInt8} {k : Nat} {e : Int} (h : PS w b l k e) : eOf w b = e := by unfold Wi.eOf; rw [h.c2]
def mes (l : List UInt8) (k : Nat) (e : Int) : Nat := 2 * (l.length - k) + (if e = 0 then 1 else 0)
theorem nxV_mes {l : List UInt8} {k : Nat} (hk : k ≤ l.length) : mes l (nxV l k 0).2.1 (nxV l k 0).2.2 < mes l k 0 := by
  unfold nxV
  by_cases h : k = l.length
  · rw [if_pos h]; simp [mes, fe]
  · rw [if_neg h]
    show mes l (k + 1) 0 < mes l k 0
    unfold mes
    omega
theorem fe_mes (l : List UInt8) (k : Nat) (e e' : Int) (h' : e' ≠ 0) : mes l k (fe e e') ≤ mes l k e := by
  unfold mes fe
  by_cases h : e = 0
  · rw [if_pos h, if_neg h', if_pos h]; omega
  · rw [if_neg h]; exact Nat.le_refl _
theorem nxV_mesle {l : List UInt8} {k : Nat} {e : Int} (hk : k ≤ l.length) : mes l (nxV l k e).2.1 (nxV l k e).2.2 ≤ mes l k e := by
  unfold nxV
  by_cases h : k = l.length
  · rw [if_pos h]
    exact fe_mes l k e 8 (by decide)
  · rw [if_neg h]
    show mes l (k + 1) e ≤ mes l k e
    unfold mes
    omega
theorem hxV_mesle {l : List UInt8} {k : Nat} {e : Int} (hk : k ≤ l.length) : mes l (hxV l k e).2.1 (hxV l k e).2.2 ≤ mes l k e := by
  have h := nxV_mesle (e := e) hk
  unfold hxV
  dsimp only
  by_cases h2 : hxi (nxV l k e).1 < 0
  · rw [if_pos h2]
    exact Nat.le_trans (fe_mes l _ _ 8 (by decide)) h
  · rw [if_neg h2]; exact h
theorem chV_mes {l : List UInt8} {k : Nat} (hk : k ≤ l.length) : mes l (chV l k 0).2.1 (chV l k 0).2.2 < mes l k 0 := by
  have h1 := nxV_mes hk
  have k1 := nxV_le (e := 0) hk
  have h2 := nxV_mesle (l := l) (e := (nxV l k 0).2.2) k1
  have k2 := nxV_le (l := l) (e := (nxV l k 0).2.2) k1
  have h3 := hxV_mesle (l := l) (e := (nxV l (nxV l k 0).2.1 (nxV l k 0).2.2).2.2) k2
  have k3 := hxV_le (l := l) (e := (nxV l (nxV l k 0).2.1 (nxV l k 0).2.2).2.2) k2
  have h4 := hxV_mesle (l := l) (e := (hxV l (nxV l (nxV l k 0).2.1 (nxV l k 0).2.2).2.1 (nxV l (nxV l k 0).2.1 (nxV l k 0).2.2).2.2).2.2) k3
  unfold chV
  dsimp only
  split
  · exact h1
  · split
    · omega
    · dsimp only; omega
theorem nxV_ge (l : List UInt8) (k : Nat) (e : Int) : k ≤ (nxV l k e).2.1 := by
  unfold nxV
  by_cases h : k = l.length
  · rw [if_pos h]; exact Nat.le_refl _
  · rw [if_neg h]; exact Nat.le_succ _
theorem hxV_ge (l : List UInt8) (k : Nat) (e : Int) : k ≤ (hxV l k e).2.1 := by
  unfold hxV
  dsimp only
  split <;> exact nxV_ge l k e
theorem chV_ge (l : List UInt8) (k : Nat) (e : Int) : k ≤ (chV l k e).2.1 := by
  unfold chV
  dsimp only
  have h1 := nxV_ge l k e
  have h2 := nxV_ge l (nxV l k e).2.1 (nxV l k e).2.2
  have h3 := hxV_ge l (nxV l (nxV l k e).2.1 (nxV l k e).2.2).2.1 (nxV l (nxV l k e).2.1 (nxV l k e).2.2).2.2
  have h4 := hxV_ge l (hxV l (nxV l (nxV l k e).2.1 (nxV l k e).2.2).2.1 (nxV l (nxV l k e).2.1 (nxV l k e).2.2).2.2).2.1 (hxV l (nxV l (nxV l k e).2.1 (nxV l k e).2.2).2.1 (nxV l (nxV l k e).2.1 (nxV l k e).2.2).2.2).2.2
  split
  · exact h1
  · split
    · omega
    · dsimp only; omega
/-- The bytes of a text, up to its end. -/
def txL (l : List UInt8) : Nat → Nat → Int → List UInt8 → List UInt8 × Nat × Int
  | 0, k, e, acc => (acc, k, e)
  | f + 1, k, e, acc => if e ≠ 0 then (acc, k, e) else if tkV [34] l k = true then (acc, k + 1, e) else txL l f (chV l k e).2.1 (chV l k e).2.2 (acc ++ [(chV l k e).1])
def tqV (l : List UInt8) (k : Nat) (e : Int) : List UInt8 × Nat × Int :=
  let R := txL l (2 * l.length + 3) k e []
  (R.1, R.2.1, if qt R.1 = (l.take R.2.1).drop (k - 1) then R.2.2 else fe R.2.2 8)
def txRel (k0 : Nat) (w : World) (b : Nat) (l : List UInt8) (R : List UInt8 × Nat × Int) (s : Value) (wr : World) : Prop := ∃ (k : Nat) (e : Int) (acc : List UInt8) (ao : Option Addr) (c n f : Nat), s = .slice ao n c ∧ n = acc.length ∧ wr.ownsRow w.heap.size 5 1 (.slice ao n c) n (bvs acc) ∧ PS wr b l k e ∧ k ≤ l.length ∧
  k0 ≤ k ∧ mes l k e < f ∧ txL l f k e acc = R ∧ acc.length + mes l k e ≤ 2 * l.length + 2 ∧ Fr w wr b none
def TxPost (w : World) (b : Nat) (l : List UInt8) (X : List UInt8 × Nat × Int) (en : Ending) (w' : World) : Prop := en = .returned (.string (str X.1)) ∧ PS w' b l X.2.1 X.2.2 ∧ Fr w w' b none
theorem txL_le (l : List UInt8) : ∀ (f k : Nat) (e : Int) (acc : List UInt8), k ≤ l.length → (txL l f k e acc).2.1 ≤ l.length := by
  intro f
  induction f with
  | zero => intro k e acc hk; exact hk
  | succ f ih =>
    intro k e acc hk
    rw [txL]
    by_cases h1 : e ≠ 0
    · rw [if_pos h1]; exact hk
    rw [if_neg h1]
    by_cases h2 : tkV [34] l k = true
    · rw [if_pos h2]
      have := tkN_le (p := [34]) hk
      unfold tkN at this
      rw [if_pos h2] at this
      exact this
    · rw [if_neg h2]
      exact ih _ _ _ (chV_le hk)
theorem beq_strV (a c : List UInt8) : ((str a).toList == (str c).toList) = decide (a = c) := by
  rw [ByteArray.toList_eq, ByteArray.toList_eq, show (str a).data = a.toArray from rfl, show (str c).data = c.toArray from rfl, Bool.eq_iff_iff, beq_iff_eq, decide_eq_true_eq]
theorem below_frZ {w w' : World} (h : Below w.heap.size w w') (b : Nat) : Fr w w' b none := ⟨h.os, h.tape, h.output, h.size, fun k hk _ _ => h.block k hk⟩
set_option maxHeartbeats 16000000 in
set_option maxRecDepth 100000 in
theorem ptext_any {w : World} {b : Nat} {l : List UInt8} {k0 : Nat} {e0 : Int} (h : PS w b l k0 e0) (hk1 : 1 ≤ k0) (hk : k0 ≤ l.length) (hl : l.length ≤ 1000000000) :
    Calls Tryz.prog 89 #[.pointer (some ⟨b, 0, none⟩)] w (TxPost w b l (tqV l k0 e0)) := by
  have c1 := h.c1
  have hb := h.lt
  obtain ⟨Z, hZ⟩ : ∃ Z, Z = tqV l k0 e0 := ⟨_, rfl⟩
  rw [← hZ]
  unfold tqV at hZ
  dsimp only at hZ
  have hRl := txL_le l (2 * l.length + 3) k0 e0 [] hk
  obtain ⟨R, hR⟩ : ∃ R, R = txL l (2 * l.length + 3) k0 e0 [] := ⟨_, rfl⟩
  rw [← hR] at hZ hRl
  have hm0 : mes l k0 e0 ≤ 2 * l.length + 1 := by unfold mes; split <;> omega
  have R0 := Lib.hid (show txRel k0 w b l R (.slice none 0 0) w from ⟨k0, e0, [], none, 0, 0, 2 * l.length + 3, rfl, rfl, World.ownsRow_nil _ _ _ _, h, hk, Nat.le_refl _, by omega, hR.symm, by simp; omega, Fr.refl _ _ _⟩)
  have HZ := Lib.hid hZ
  have HRL := Lib.hid hRl
  have b0 : -9223372036854775808 ≤ (k0 : Int) - 1 ∧ (k0 : Int) - 1 ≤ 9223372036854775807 := by omega
  clear h hZ hR hRl hm0
  go_enter Tryz.func89, Tryz.ntmps89
  go_upto_region 3 with fail
  obtain ⟨st, hst⟩ : ∃ st : Nat, st = k0 - 1 := ⟨_, rfl⟩
  have est : (k0 : Int) - 1 = (st : Int) := by omega
  rw [est]
  have HST := Lib.hid hst
  clear est hst b0 c1
  go_loopw [4] (fun s wr => txRel k0 w b l R s wr) (fun _ wr => mes l (kOf wr b) (eOf wr b))
  case atStart => exact R0.out
  case round =>
    obtain ⟨wq, rfl⟩ : ∃ wq : World, wq = wr := ⟨_, rfl⟩
    obtain ⟨k, e, acc, ao, c, n, f, rfl, hn, own, hP, hkl, hk0, hf, hR, hA, hF⟩ := hrel
    have c2 := hP.c2
    rw [hP.kOf, hP.eOf]
    have HN := Lib.hid hn
    have OWN := Lib.hid own
    have HP := Lib.hid hP
    have HA := Lib.hid hA
    have HF := Lib.hid hF
    obtain ⟨f, rfl⟩ : ∃ f', f = f' + 1 := ⟨f - 1, by omega⟩
    rw [txL] at hR
    have HR := Lib.hid hR
    have HMF := Lib.hid hf
    have HK0 := Lib.hid hk0
    have TK := Lib.hid (ptake_any hP hkl (by omega) [34])
    clear hn own hP hA hF hR R0 hf hk0
    by_cases he : e = 0
    · subst he
      have hR := HR.out
      rw [if_neg (not_not_intro rfl)] at hR
      by_cases ht : tkV [34] l k = true
      · rw [if_pos ht] at hR
        rw [ht, show tkN [34] l k = k + 1 by unfold tkN; rw [if_pos ht]; rfl] at TK
        have hk1l := tkN_le (p := [34]) hkl
        rw [show tkN [34] l k = k + 1 by unfold tkN; rw [if_pos ht]; rfl] at hk1l
        have HRZ := Lib.hid hR
        clear hR HR ht
        go_wp2_with fail
        refine TK.out.mono ?_
        rintro en wz ⟨rfl, hpz, hfz⟩
        have HPZ := Lib.hid hpz
        have HFZ := Lib.hid (HF.out.trans (Or.inl rfl) hfz)
        have OWZ := Lib.hid (own_keepK OWN.out (fun g hg hlt => hfz.block g hlt (by have := (OWN.out.lt g hg).1; omega) (fun e => by cases e)))
        obtain ⟨kz, hkz⟩ : ∃ kz, kz = k + 1 := ⟨_, rfl⟩
        rw [← hkz] at HPZ HRZ hk1l
        have HKL := Lib.hid hk1l
        have HKZ := Lib.hid (show k0 ≤ kz by rw [hkz]; have := HK0.out; omega)
        clear hpz hfz hk1l hkz c2
        have HQV := Lib.hid (fun (W : World) => vquote_any acc W (by have := HA.out; omega))
        have cv := own_conv OWZ.out HN.out.symm
        obtain ⟨SA, hSA⟩ : ∃ SA, SA = str acc := ⟨_, rfl⟩
        obtain ⟨SQ, hSQ⟩ : ∃ SQ, SQ = str (qt acc) := ⟨_, rfl⟩
        obtain ⟨SL, hSL⟩ : ∃ SL, SL = str l := ⟨_, rfl⟩
        obtain ⟨SE, hSE⟩ : ∃ SE, SE = str ((l.take kz).drop st) := ⟨_, rfl⟩
        obtain ⟨q, hq⟩ : ∃ q, q = !decide (qt acc = (l.take kz).drop st) := ⟨_, rfl⟩
        have hsl := str_sizeX l
        have hex := str_extractV l st kz
        have hbq := beq_strV (qt acc) ((l.take kz).drop st)
        rw [← hSA] at cv
        rw [← hSA, ← hSQ] at HQV
        rw [← hSL] at hsl
        rw [← hSL, ← hSE] at hex
        rw [← hSQ, ← hSE] at hbq
        have HBQ := Lib.hid (show (!(SQ.toList == SE.toList)) = q by rw [hbq, hq])
        have HSA := Lib.hid hSA
        have CC := Lib.hid (show ∀ W, Below wz.heap.size wz W → W.cell? ⟨b, 0, none⟩ = some (.string SL) ∧ W.cell? ⟨b, 1, none⟩ = some (.int .i64 (kz : Int)) from fun W hW => by
          have h := HPZ.out.keep (hW.block b HPZ.out.lt)
          rw [hSL]
          exact ⟨h.c0, h.c1⟩)
        have hsk : st ≤ kz := by have h1 := HST.out; have h2 := HKZ.out; omega
        have hks : kz ≤ SL.size := by rw [hsl]; exact HKL.out
        have s0 : (0 : Int) ≤ (st : Int) := by omega
        have s1 : (st : Int) ≤ (kz : Int) := by omega
        have s2 : (kz : Int) ≤ (SL.size : Int) := by omega
        have s3 : kz ≤ l.length := HKL.out
        have s4 : ¬ l.length < kz := by omega
        have s5 : (kz : Int) ≤ (l.length : Int) := by omega
        have HZ2 := Lib.hid (show Z = (acc, kz, if q = false then 0 else fe 0 8) by
          have hz := HZ.out
          rw [← HRZ.out, ← HST.out] at hz
          dsimp only at hz
          rw [hz, hq]
          by_cases h : qt acc = (l.take kz).drop st
          · rw [if_pos h, if_pos (by rw [decide_eq_true h]; rfl)]
          · rw [if_neg h, if_neg (by rw [decide_eq_false h]; decide)])
        clear hSA hSQ hSL hSE hq hbq hsk hks
        go_upto_region 6 with fail
        refine wp_region_quiet_in (fun w' => Below wz.heap.size wz w') (by kernel_rfl) (by kernel_rfl) (below_drewG (Below.refl wz.heap.size wz) 1) ?_
        refine wpQuiet_runG (v := (.string SA)) (by kernel_rfl) (fun w' hC => by rfl) ?_
        simp only [Act.put, List.setIfInBounds_toArray, List.set_cons_zero, List.set_cons_succ, List.getElem_toArray, List.getElem_cons_zero, List.getElem_cons_succ]
        refine wpQuiet_callG (f := 31) (xs := #[.tmp 28]) #[.string SA] (.string SQ) (by kernel_rfl) rfl Tryz.func31 (by kernel_rfl) (by kernel_rfl) (by simp [Act.eval]) (fun W hW => (HQV.out W).mono fun e w' h => ⟨h.1, Below.trans hW (h.2.mono hW.size)⟩) ?_
        simp only [Act.put, List.setIfInBounds_toArray, List.set_cons_zero, List.set_cons_succ, List.getElem_toArray, List.getElem_cons_zero, List.getElem_cons_succ]
        refine wpQuiet_runG (v := (.pointer (some ⟨b, 0, none⟩))) (by kernel_rfl) (fun w' hC => by rfl) ?_
        simp only [Act.put, List.setIfInBounds_toArray, List.set_cons_zero, List.set_cons_succ, List.getElem_toArray, List.getElem_cons_zero, List.getElem_cons_succ]
        refine wpQuiet_runG (v := (.pointer (some ⟨b, 0, none⟩))) (by kernel_rfl) (fun w' hC => by go_simp) ?_
        simp only [Act.put, List.setIfInBounds_toArray, List.set_cons_zero, List.set_cons_succ, List.getElem_toArray, List.getElem_cons_zero, List.getElem_cons_succ]
        refine wpQuiet_runG (v := (.pointer (some ⟨b, 0, none⟩))) (by kernel_rfl) (fun w' hC => by go_simp) ?_
        simp only [Act.put, List.setIfInBounds_toArray, List.set_cons_zero, List.set_cons_succ, List.getElem_toArray, List.getElem_cons_zero, List.getElem_cons_succ]
        refine wpQuiet_runG (v := (.string SL)) (by kernel_rfl) (fun w' hC => by have c0 := (CC.out w' hC).1; go_simp) ?_
        simp only [Act.put, List.setIfInBounds_toArray, List.set_cons_zero, List.set_cons_succ, List.getElem_toArray, List.getElem_cons_zero, List.getElem_cons_succ]
        refine wpQuiet_runG (v := (.int .i64 (st : Int))) (by kernel_rfl) (fun w' hC => by rfl) ?_
        simp only [Act.put, List.setIfInBounds_toArray, List.set_cons_zero, List.set_cons_succ, List.getElem_toArray, List.getElem_cons_zero, List.getElem_cons_succ]
        refine wpQuiet_runG (v := (.pointer (some ⟨b, 0, none⟩))) (by kernel_rfl) (fun w' hC => by rfl) ?_
        simp only [Act.put, List.setIfInBounds_toArray, List.set_cons_zero, List.set_cons_succ, List.getElem_toArray, List.getElem_cons_zero, List.getElem_cons_succ]
        refine wpQuiet_runG (v := (.pointer (some ⟨b, 0, none⟩))) (by kernel_rfl) (fun w' hC => by go_simp) ?_
        simp only [Act.put, List.setIfInBounds_toArray, List.set_cons_zero, List.set_cons_succ, List.getElem_toArray, List.getElem_cons_zero, List.getElem_cons_succ]
        refine wpQuiet_runG (v := (.pointer (some ⟨b, 1, none⟩))) (by kernel_rfl) (fun w' hC => by go_simp) ?_
        simp only [Act.put, List.setIfInBounds_toArray, List.set_cons_zero, List.set_cons_succ, List.getElem_toArray, List.getElem_cons_zero, List.getElem_cons_succ]
        refine wpQuiet_runG (v := (.int .i64 (kz : Int))) (by kernel_rfl) (fun w' hC => by have c1 := (CC.out w' hC).2; go_simp) ?_
        simp only [Act.put, List.setIfInBounds_toArray, List.set_cons_zero, List.set_cons_succ, List.getElem_toArray, List.getElem_cons_zero, List.getElem_cons_succ]
        refine wpQuiet_runG (v := (.string SE)) (by kernel_rfl) (fun w' hC => by go_simp) ?_
        simp only [Act.put, List.setIfInBounds_toArray, List.set_cons_zero, List.set_cons_succ, List.getElem_toArray, List.getElem_cons_zero, List.getElem_cons_succ]
        refine wpQuiet_runG (v := (.bool q)) (by kernel_rfl) (fun w' hC => by have hb := HBQ.out; go_simp) ?_
        simp only [Act.put, List.setIfInBounds_toArray, List.set_cons_zero, List.set_cons_succ, List.getElem_toArray, List.getElem_cons_zero, List.getElem_cons_succ]
        refine wpQuiet_nil ?_
        intro w9 hC9
        have HP9 := Lib.hid (HPZ.out.keep (hC9.block b HPZ.out.lt))
        have HF9 := Lib.hid (show Fr w w9 b none from HFZ.out.trans (Or.inl rfl) (below_frZ hC9 b))
        clear hC9
        cases q
        · have RL := Lib.hid (show TxPost w b l Z (.returned (.string SA)) w9 from by
            rw [HZ2.out, HSA.out]
            exact ⟨rfl, HP9.out, HF9.out⟩)
          go_wp2_with fail
          go_ret
          exact RL.out
        · have PF := Lib.hid (pfail_any HP9.out 8)
          go_wp2_with fail
          refine PF.out.mono ?_
          rintro en wA ⟨rfl, hpA, hfA⟩
          have RL := Lib.hid (show TxPost w b l Z (.returned (.string SA)) wA from by
            rw [HZ2.out, HSA.out]
            exact ⟨rfl, hpA, HF9.out.trans (Or.inl rfl) hfA⟩)
          clear hpA hfA
          go_wp2_with fail
          go_ret
          exact RL.out
      · rw [if_neg ht] at hR
        rw [show tkV [34] l k = false by simpa using ht, show tkN [34] l k = k by unfold tkN; rw [if_neg ht]] at TK
        have HR2 := Lib.hid hR
        clear hR HR ht
        go_wp2_with fail
        refine TK.out.mono ?_
        rintro en w2 ⟨rfl, hp2, hf2⟩
        have CH := Lib.hid (pchar_any hp2 hkl (by omega))
        have hle := chV_le (e := 0) hkl
        have hms := chV_mes hkl
        have hge := chV_ge l k 0
        obtain ⟨C, hC⟩ : ∃ C, C = chV l k 0 := ⟨_, rfl⟩
        rw [← hC] at CH HR2 hle hms hge
        obtain ⟨cc, ck, ce⟩ := C
        dsimp only at HR2 hle hms hge
        have HF2 := Lib.hid (HF.out.trans (Or.inl rfl) hf2)
        have OW2 := Lib.hid (own_keepK OWN.out (fun g hg hlt => hf2.block g hlt (by have := (OWN.out.lt g hg).1; omega) (fun e => by cases e)))
        have HLE := Lib.hid hle
        have HMS := Lib.hid hms
        have HGE := Lib.hid hge
        clear hp2 hf2 hC hle hms hge
        go_wp2_with fail
        refine CH.out.mono ?_
        rintro en w3 ⟨rfl, hp3, hf3⟩
        dsimp only at hp3 ⊢
        have HF3 := Lib.hid (HF2.out.trans (Or.inl rfl) hf3)
        have OW3 := Lib.hid (own_keepK OW2.out (fun g hg hlt => hf3.block g hlt (by have := (OW2.out.lt g hg).1; omega) (fun e => by cases e)))
        have HP3 := Lib.hid hp3
        have HBs := Lib.hid HF3.out.size
        clear hp3 hf3
        go_wp2_with (at_builtin; refine wpList_apb rfl (.tmp 21) (.tmp 24) rfl w.heap.size _ _ acc n HN.out rfl OW3.out HBs.out _ [cc] 1 rfl rfl rfl (by have := HA.out; have := HN.out; omega) ?next)
        case next =>
          rintro a4 c4 w4 own4 hb4
          have RL := Lib.hid (show txRel k0 w b l R (.slice a4 (n + 1) c4) w4 from ⟨ck, ce, acc ++ [cc], a4, c4, n + 1, f, rfl, by rw [List.length_append, ← HN.out]; rfl, own4, HP3.out.keep (hb4.block b hb), HLE.out, by have h1 := HGE.out; have h2 := HK0.out; omega, by have := HMS.out; have := HMF.out; omega, HR2.out, by have := HA.out; have := HMS.out; simp only [List.length_append, List.length_cons, List.length_nil]; omega,
            ⟨hb4.os.trans HF3.out.os, hb4.tape.trans HF3.out.tape, hb4.output.trans HF3.out.output, Nat.le_trans HF3.out.size hb4.size, fun q hq h1 h2 => (hb4.block q hq).trans (HF3.out.block q hq h1 h2)⟩⟩)
          have hko : kOf w4 b = ck := (HP3.out.keep (hb4.block b hb)).kOf
          have heo : eOf w4 b = ce := (HP3.out.keep (hb4.block b hb)).eOf
          have HM4 := Lib.hid (show mes l (kOf w4 b) (eOf w4 b) < mes l k 0 by rw [hko, heo]; exact HMS.out)
          clear own4 hb4 hko heo
          go_wp2_with fail
          exact ⟨RL.out, HM4.out⟩
    · have hR := HR.out
      rw [if_pos he] at hR
      have HRZ := Lib.hid hR
      have HPZ := HP
      have HFZ := HF
      have OWZ := OWN
      have HKL := Lib.hid hkl
      have HKZ := Lib.hid (show k0 ≤ k from HK0.out)
      have he2 : (e == 0) = false := by simpa using he
      clear hR HR TK
      have HQV := Lib.hid (fun (W : World) => vquote_any acc W (by have := HA.out; omega))
      have cv := own_conv OWZ.out HN.out.symm
      obtain ⟨SA, hSA⟩ : ∃ SA, SA = str acc := ⟨_, rfl⟩
      obtain ⟨SQ, hSQ⟩ : ∃ SQ, SQ = str (qt acc) := ⟨_, rfl⟩
      obtain ⟨SL, hSL⟩ : ∃ SL, SL = str l := ⟨_, rfl⟩
      obtain ⟨SE, hSE⟩ : ∃ SE, SE = str ((l.take k).drop st) := ⟨_, rfl⟩
      obtain ⟨q, hq⟩ : ∃ q, q = !decide (qt acc = (l.take k).drop st) := ⟨_, rfl⟩
      have hsl := str_sizeX l
      have hex := str_extractV l st k
      have hbq := beq_strV (qt acc) ((l.take k).drop st)
      rw [← hSA] at cv
      rw [← hSA, ← hSQ] at HQV
      rw [← hSL] at hsl
      rw [← hSL, ← hSE] at hex
      rw [← hSQ, ← hSE] at hbq
      have HBQ := Lib.hid (show (!(SQ.toList == SE.toList)) = q by rw [hbq, hq])
      have HSA := Lib.hid hSA
      have CC := Lib.hid (show ∀ W, Below wq.heap.size wq W → W.cell? ⟨b, 0, none⟩ = some (.string SL) ∧ W.cell? ⟨b, 1, none⟩ = some (.int .i64 (k : Int)) from fun W hW => by
        have h := HPZ.out.keep (hW.block b HPZ.out.lt)
        rw [hSL]
        exact ⟨h.c0, h.c1⟩)
      have hsk : st ≤ k := by have h1 := HST.out; have h2 := HKZ.out; omega
      have hks : k ≤ SL.size := by rw [hsl]; exact HKL.out
      have s0 : (0 : Int) ≤ (st : Int) := by omega
      have s1 : (st : Int) ≤ (k : Int) := by omega
      have s2 : (k : Int) ≤ (SL.size : Int) := by omega
      have s3 : k ≤ l.length := HKL.out
      have s4 : ¬ l.length < k := by omega
      have s5 : (k : Int) ≤ (l.length : Int) := by omega
      have HZ2 := Lib.hid (show Z = (acc, k, if q = false then e else fe e 8) by
        have hz := HZ.out
        rw [← HRZ.out, ← HST.out] at hz
        dsimp only at hz
        rw [hz, hq]
        by_cases h : qt acc = (l.take k).drop st
        · rw [if_pos h, if_pos (by rw [decide_eq_true h]; rfl)]
        · rw [if_neg h, if_neg (by rw [decide_eq_false h]; decide)])
      clear hSA hSQ hSL hSE hq hbq hsk hks
      go_upto_region 6 with fail
      refine wp_region_quiet_in (fun w' => Below wq.heap.size wq w') (by kernel_rfl) (by kernel_rfl) (below_drewG (Below.refl wq.heap.size wq) 1) ?_
      refine wpQuiet_runG (v := (.string SA)) (by kernel_rfl) (fun w' hC => by rfl) ?_
      simp only [Act.put, List.setIfInBounds_toArray, List.set_cons_zero, List.set_cons_succ, List.getElem_toArray, List.getElem_cons_zero, List.getElem_cons_succ]
      refine wpQuiet_callG (f := 31) (xs := #[.tmp 28]) #[.string SA] (.string SQ) (by kernel_rfl) rfl Tryz.func31 (by kernel_rfl) (by kernel_rfl) (by simp [Act.eval]) (fun W hW => (HQV.out W).mono fun e w' h => ⟨h.1, Below.trans hW (h.2.mono hW.size)⟩) ?_
      simp only [Act.put, List.setIfInBounds_toArray, List.set_cons_zero, List.set_cons_succ, List.getElem_toArray, List.getElem_cons_zero, List.getElem_cons_succ]
      refine wpQuiet_runG (v := (.pointer (some ⟨b, 0, none⟩))) (by kernel_rfl) (fun w' hC => by rfl) ?_
      simp only [Act.put, List.setIfInBounds_toArray, List.set_cons_zero, List.set_cons_succ, List.getElem_toArray, List.getElem_cons_zero, List.getElem_cons_succ]
      refine wpQuiet_runG (v := (.pointer (some ⟨b, 0, none⟩))) (by kernel_rfl) (fun w' hC => by go_simp) ?_
      simp only [Act.put, List.setIfInBounds_toArray, List.set_cons_zero, List.set_cons_succ, List.getElem_toArray, List.getElem_cons_zero, List.getElem_cons_succ]
      refine wpQuiet_runG (v := (.pointer (some ⟨b, 0, none⟩))) (by kernel_rfl) (fun w' hC => by go_simp) ?_
      simp only [Act.put, List.setIfInBounds_toArray, List.set_cons_zero, List.set_cons_succ, List.getElem_toArray, List.getElem_cons_zero, List.getElem_cons_succ]
      refine wpQuiet_runG (v := (.string SL)) (by kernel_rfl) (fun w' hC => by have c0 := (CC.out w' hC).1; go_simp) ?_
      simp only [Act.put, List.setIfInBounds_toArray, List.set_cons_zero, List.set_cons_succ, List.getElem_toArray, List.getElem_cons_zero, List.getElem_cons_succ]
      refine wpQuiet_runG (v := (.int .i64 (st : Int))) (by kernel_rfl) (fun w' hC => by rfl) ?_
      simp only [Act.put, List.setIfInBounds_toArray, List.set_cons_zero, List.set_cons_succ, List.getElem_toArray, List.getElem_cons_zero, List.getElem_cons_succ]
      refine wpQuiet_runG (v := (.pointer (some ⟨b, 0, none⟩))) (by kernel_rfl) (fun w' hC => by rfl) ?_
      simp only [Act.put, List.setIfInBounds_toArray, List.set_cons_zero, List.set_cons_succ, List.getElem_toArray, List.getElem_cons_zero, List.getElem_cons_succ]
      refine wpQuiet_runG (v := (.pointer (some ⟨b, 0, none⟩))) (by kernel_rfl) (fun w' hC => by go_simp) ?_
      simp only [Act.put, List.setIfInBounds_toArray, List.set_cons_zero, List.set_cons_succ, List.getElem_toArray, List.getElem_cons_zero, List.getElem_cons_succ]
      refine wpQuiet_runG (v := (.pointer (some ⟨b, 1, none⟩))) (by kernel_rfl) (fun w' hC => by go_simp) ?_
      simp only [Act.put, List.setIfInBounds_toArray, List.set_cons_zero, List.set_cons_succ, List.getElem_toArray, List.getElem_cons_zero, List.getElem_cons_succ]
      refine wpQuiet_runG (v := (.int .i64 (k : Int))) (by kernel_rfl) (fun w' hC => by have c1 := (CC.out w' hC).2; go_simp) ?_
      simp only [Act.put, List.setIfInBounds_toArray, List.set_cons_zero, List.set_cons_succ, List.getElem_toArray, List.getElem_cons_zero, List.getElem_cons_succ]
      refine wpQuiet_runG (v := (.string SE)) (by kernel_rfl) (fun w' hC => by go_simp) ?_
      simp only [Act.put, List.setIfInBounds_toArray, List.set_cons_zero, List.set_cons_succ, List.getElem_toArray, List.getElem_cons_zero, List.getElem_cons_succ]
      refine wpQuiet_runG (v := (.bool q)) (by kernel_rfl) (fun w' hC => by have hb := HBQ.out; go_simp) ?_
      simp only [Act.put, List.setIfInBounds_toArray, List.set_cons_zero, List.set_cons_succ, List.getElem_toArray, List.getElem_cons_zero, List.getElem_cons_succ]
      refine wpQuiet_nil ?_
      intro w9 hC9
      have HP9 := Lib.hid (HPZ.out.keep (hC9.block b HPZ.out.lt))
      have HF9 := Lib.hid (show Fr w w9 b none from HFZ.out.trans (Or.inl rfl) (below_frZ hC9 b))
      clear hC9
      cases q
      · have RL := Lib.hid (show TxPost w b l Z (.returned (.string SA)) w9 from by
          rw [HZ2.out, HSA.out]
          exact ⟨rfl, HP9.out, HF9.out⟩)
        go_wp2_with fail
        go_ret
        exact RL.out
      · have PF := Lib.hid (pfail_any HP9.out 8)
        go_wp2_with fail
        refine PF.out.mono ?_
        rintro en wA ⟨rfl, hpA, hfA⟩
        have RL := Lib.hid (show TxPost w b l Z (.returned (.string SA)) wA from by
          rw [HZ2.out, HSA.out]
          exact ⟨rfl, hpA, HF9.out.trans (Or.inl rfl) hfA⟩)
        clear hpA hfA
        go_wp2_with fail
        go_ret
        exact RL.out
end Go.Proofs.YthfjahagmfgfeaaGreatDoor.Wi
