/- Print. -/
import Derived.Test.YtnfobnnbeefeeaaGreatDoorGM
import Derived.Test.YtnfobnnbeefeeaaGreatDoorG7
import Derived.Test.YtnfobnnbeefeeaaGreatDoorG2
namespace Go.Proofs.YtnfobnnbeefeeaaGreatDoor.Wi
open Go Go.RowKit
set_option linter.unusedVariables false
set_option linter.unusedSimpArgs false
theorem decimal_any (n : Int) (hn : -9223372036854775808 ≤ n ∧ n ≤ 9223372036854775807) (w : World) (ht : Lib.TabIs Tryz.prog w "internal/strconv.uint64pow10" .u64 Lib.pow10Tab) : Calls Tryz.prog 96 #[.int .i64 n] w fun e w' => e = .returned (.string (str (Lib.itoa n))) ∧ Below w.heap.size w w' := by
  have FI := Tryz.strconv_FormatInt_10 n hn.1 hn.2 w ht
  rw [show (⟨(Lib.itoa n).toArray⟩ : ByteArray) = str (Lib.itoa n) from rfl] at FI
  obtain ⟨S, hS⟩ : ∃ S, S = str (Lib.itoa n) := ⟨_, rfl⟩
  rw [← hS] at FI ⊢
  clear hS ht hn
  go_enter Tryz.func96, Tryz.ntmps96
  go_wp2_with fail
  refine FI.mono ?_
  rintro e w2 ⟨rfl, k, os, hw⟩
  have hb : Below w.heap.size w w2 := by rw [hw]; exact Lib.below_grow _ w (Nat.le_refl _) k os
  clear hw
  go_wp2_with fail
  go_ret
  exact ⟨rfl, hb⟩
theorem itoaE_any (n : Int) (hn : -9223372036854775808 ≤ n ∧ n ≤ 9223372036854775807) (w : World) (ht : Lib.TabIs Tryz.prog w "internal/strconv.uint64pow10" .u64 Lib.pow10Tab) : Calls Tryz.prog 95 #[.int .i64 n] w fun e w' => e = .returned (.string (str (Lib.itoa n))) ∧ Below w.heap.size w w' := by
  refine (Tryz.strconv_Itoa n hn.1 hn.2 w ht).mono ?_
  rintro e w' ⟨he, k, os, hw⟩
  exact ⟨he, by rw [hw]; exact Lib.below_grow _ w (Nat.le_refl _) k os⟩
def svs (L : List ByteArray) : List Value := L.map Value.string
theorem svs_one (L : List ByteArray) : ∀ u ∈ svs L, u.oneCell' = true := by
  intro u hu
  obtain ⟨_, _, rfl⟩ := List.mem_map.1 hu
  rfl
/-- A text is written behind a row of texts. -/
theorem wpList_apStr {ops : Array Oper} {rest : List Oper} {o : Oper} {a : Act} {Q : Exit → Act → World → Prop} {w : World} (hgd : o.guard = none) (s x : Operand)
    (ho : o.op = .call { callee := .builtin .append, args := #[s, x], argTypes := #[108, 108] })
    (B : Nat) (ao : Option Addr) (c : Nat) (L : List ByteArray) (n : Nat) (hn : n = L.length) (hsv : a.eval s = .slice ao n c) (own : w.ownsRow B 9 1 (.slice ao n c) n (svs L)) (hB : B ≤ w.heap.size)
    (t : ByteArray) (hx : a.eval x = .slice (some ⟨w.heap.size, 0, none⟩) 1 1) (hlim : n + 1 ≤ 1000000)
    (h : ∀ ao' c' w', w'.ownsRow B 9 1 (.slice ao' (n + 1) c') (n + 1) (svs (L ++ [t])) → Below B w w' → (∀ k, k < w.heap.size → some k ≠ (Value.slice ao n c).ownBlock → w'.heap[k]? = w.heap[k]?) → wpList Tryz.prog ops Q rest (a.put o.dst (.slice ao' (n + 1) c')) w') :
    wpList Tryz.prog ops Q (o :: rest) a (w.alloc (.cells #[.string t] 9)) := by
  obtain ⟨i0, hi, hz0, hz1, hz2⟩ := info_parts (show (Tryz.prog.info? 9).map (fun i => (i.zero, i.size, i.bytes)) = some (some (.string ⟨#[]⟩), 1, 16) by kernel_rfl)
  refine wpList_append_own_src _ hgd s x 108 108 ho B 9 i0 (.string ⟨#[]⟩) 1 16 Tryz.underlying108 hi hz0 hz1 hz2 rfl _ n (svs L) hsv (own.alloc _) _ 1 (svs [t]) hx ?_ (by unfold maxLen; omega) (by omega) (by simp; omega) ?_
  · exact src_oneK Tryz.underlying108 w (svs [t]) rfl (svs_one [t])
  · intro v' w' hg
    obtain ⟨a2, c2, rfl, own4, hb4, blk4⟩ := grew_oneK own hB (Nat.le_refl _) hg
    rw [show svs L ++ svs [t] = svs (L ++ [t]) by simp [svs]] at own4
    exact h a2 c2 w' own4 hb4 blk4
def WdS (w1 : World) (L : List ByteArray) (s : Value) (wx : World) : Prop :=
  ∃ ao c, s = .slice ao L.length c ∧ wx.ownsRow w1.heap.size 9 1 (.slice ao L.length c) L.length (svs L) ∧ Below w1.heap.size w1 wx
theorem WdS.end {w1 wx : World} {L : List ByteArray} {t : ByteArray} {ao : Option Addr} {c : Nat} (own : wx.ownsRow w1.heap.size 9 1 (.slice ao (L.length + 1) c) (L.length + 1) (svs (L ++ [t]))) (hb : Below w1.heap.size w1 wx) {L' : List ByteArray} (e : L' = L ++ [t]) : WdS w1 L' (.slice ao (L.length + 1) c) wx := by
  have h : L.length + 1 = L'.length := by rw [e]; simp
  subst e
  rw [h] at own ⊢
  exact ⟨ao, c, rfl, own, hb⟩
/-- The words of a line. -/
def oW (c : Bool) (s : List UInt8) : List (List UInt8) := if c then [s] else []
def Ev.wds (x : Ev) : List (List UInt8) := [Lib.itoa x.id, 64 :: Lib.itoa x.time, eNm x.kind] ++ oW (eA x.kind) (Lib.itoa x.a) ++ oW (eB x.kind) (Lib.itoa x.b) ++ oW (eN x.kind) (qt x.name) ++ oW (eT x.kind) (qt x.text) ++ oW (eV x.kind) x.val.pv
theorem oW_tail (c : Bool) (s : List UInt8) : Lib.joinTail [32] (oW c s) = oL c s := by cases c <;> simp [oW, oL, Lib.joinTail]
theorem joinTail_app (a b : List (List UInt8)) : Lib.joinTail [32] (a ++ b) = Lib.joinTail [32] a ++ Lib.joinTail [32] b := by simp [Lib.joinTail]
theorem wds_ln (x : Ev) : Lib.join x.wds [32] = x.ln := by
  unfold Ev.wds Ev.ln
  rw [show ([Lib.itoa x.id, 64 :: Lib.itoa x.time, eNm x.kind] : List (List UInt8)) = Lib.itoa x.id :: [64 :: Lib.itoa x.time, eNm x.kind] from rfl]
  simp only [List.cons_append]
  rw [Lib.join_cons]
  have e : ∀ (a b : List UInt8) (r : List (List UInt8)), Lib.joinTail [32] (a :: b :: r) = 32 :: (a ++ 32 :: (b ++ Lib.joinTail [32] r)) := by intro a b r; simp [Lib.joinTail]
  rw [e]
  simp only [List.nil_append, joinTail_app, oW_tail, List.append_assoc, List.cons_append]
theorem str_appE (a b : List UInt8) : str a ++ str b = str (a ++ b) := by simp [str, ByteArray.ext_iff]
theorem if_oW (c : Bool) (L : List ByteArray) (Z : ByteArray) (z : List UInt8) (h : Z = str z) : (if c = true then L ++ [Z] else L).map (·.data.toList) = L.map (·.data.toList) ++ oW c z := by
  subst h
  cases c <;> simp [oW, str_datE]
theorem if_len (c : Bool) (L : List ByteArray) (Z : ByteArray) : (if c = true then L ++ [Z] else L).length ≤ L.length + 1 ∧ L.length ≤ (if c = true then L ++ [Z] else L).length := by
  cases c <;> simp
theorem ln_le {x : Ev} (h : x.vE = 0) {N : Nat} {w : World} (hx : x.At N w) : x.ln.length ≤ 300000 := by
  have FI := Ev.fits h
  have hp := (fine FI.val.1).pz
  have hv := pv_len x.val N w hx.val
  have h1 := itoa_len x.id hx.id
  have h2 := itoa_len x.time hx.time
  have h3 := itoa_len x.a hx.a
  have h4 := itoa_len x.b hx.b
  have h5 := qcs_len x.name
  have h6 := qcs_len x.text
  have f5 := FI.name.1
  have f6 := FI.text.1
  have n1 : (eNm x.kind).length ≤ 30 := by
    have : ∀ i : Fin 21, (eNms.getD i.val []).length ≤ 30 := by decide +kernel
    unfold eNm
    rw [if_pos FI.kn]
    exact this ⟨x.kind.toNat - 1, by have := FI.kn; omega⟩
  have o : ∀ (c : Bool) (l : List UInt8), (oL c l).length ≤ l.length + 1 := by intro c l; cases c <;> simp [oL]
  have o1 := o (eA x.kind) (Lib.itoa x.a)
  have o2 := o (eB x.kind) (Lib.itoa x.b)
  have o3 := o (eN x.kind) (qt x.name)
  have o4 := o (eT x.kind) (qt x.text)
  have o5 := o (eV x.kind) x.val.pv
  have q1 : (qt x.name).length = (qcs x.name).length + 2 := by simp [qt]
  have q2 : (qt x.text).length = (qcs x.text).length + 2 := by simp [qt]
  unfold Ev.ln
  simp only [List.length_append, List.length_cons]
  omega
set_option maxHeartbeats 16000000 in
set_option maxRecDepth 100000 in
theorem eprint_any (x : Ev) (N : Nat) (w : World) (hx : x.At N w) (hv : x.vE = 0) (hN : N ≤ w.heap.size) (he : EB N w) : Calls Tryz.prog 46 #[.agg x.cells.toArray] w fun e w' => e = .returned (.string (str x.ln)) ∧ Below w.heap.size w w' := by
  have FI := Ev.fits hv
  have HFine := Lib.hid (fine FI.val.1)
  have HLN := Lib.hid (ln_le hv hx)
  obtain ⟨w1, hw1⟩ : ∃ bx, bx = w.alloc (.cells x.cells.toArray 28) := ⟨_, rfl⟩
  obtain ⟨g, hg⟩ : ∃ bx, bx = w.heap.size := ⟨_, rfl⟩
  have bw1 : Below w.heap.size w w1 := by rw [hw1]; exact (Below.refl _ _).alloc (Nat.le_refl _) _
  have nw1 : w1.heap[g]? = some (.cells x.cells.toArray 28 (0, 0)) := by rw [hw1, hg]; exact heap_alloc_new _ _
  have Kw1 := Lib.hid (rowE nw1)
  have Cw1 := Lib.hid (evC nw1)
  have Hw1 := Lib.hid hw1
  have Hg := Lib.hid hg
  have Bw1 := Lib.hid bw1
  have Nw1 := Lib.hid nw1
  clear hw1 hg bw1 nw1
  have AB := Lib.hid (about_any x.kind hx.kind w1 (he.len w1 (Bw1.out.mono hN)))
  have HK := hasK x.kind
  have HFA := Lib.hid HK.a
  have HFB := Lib.hid HK.b
  have HFN := Lib.hid HK.n
  have HFT := Lib.hid HK.t
  have HFV := Lib.hid HK.v
  have E1 := Lib.hid ((he.on (Bw1.out.mono hN)).base (Nat.le_trans hN Bw1.out.size))
  have DE := Lib.hid (fun (n : Int) (hn : -9223372036854775808 ≤ n ∧ n ≤ 9223372036854775807) (W : World) (h : Below w1.heap.size w1 W) => decimal_any n hn W (E1.out.tab W h))
  have IT := Lib.hid (fun (n : Int) (hn : -9223372036854775808 ≤ n ∧ n ≤ 9223372036854775807) (W : World) (h : Below w1.heap.size w1 W) => itoaE_any n hn W (E1.out.tab W h))
  have QT := Lib.hid (fun (l : List UInt8) (hl : 4 * l.length + 8 ≤ 140737488355328) (W : World) => vquote_any l W hl)
  have HX1 := Lib.hid (hx.below (Bw1.out.mono hN))
  have HN1 := Lib.hid (Nat.le_trans hN Bw1.out.size)
  have VP := Lib.hid (fun (W : World) (h : Below w1.heap.size w1 W) => vprint_any x.val HFine.out.dpr N W (HX1.out.val.below (h.mono HN1.out)) (Nat.le_trans HN1.out h.size) (by have := HFine.out.pz; omega) (((E1.out.on h).base h.size).tab))
  have ROW := Lib.hid (fun (W : World) (h : Below w1.heap.size w1 W) => evC ((h.block g (lt_of_rowK Nw1.out)).trans Nw1.out))
  have SZ := Lib.hid (show x.name.length ≤ 64 ∧ x.text.length ≤ 128 from ⟨FI.name.1, FI.text.1⟩)
  have BD := Lib.hid hx
  have hwl := wds_ln x
  unfold Ev.wds at hwl
  obtain ⟨LN, hLN⟩ : ∃ LN, LN = x.ln := ⟨_, rfl⟩
  rw [← hLN] at hwl HLN ⊢
  obtain ⟨SL, hSL⟩ : ∃ S, S = str LN := ⟨_, rfl⟩
  rw [← hSL]
  have HSL := Lib.hid hSL
  clear hSL
  obtain ⟨fa, hfa⟩ : ∃ f, f = eA x.kind := ⟨_, rfl⟩
  obtain ⟨fb, hfb⟩ : ∃ f, f = eB x.kind := ⟨_, rfl⟩
  obtain ⟨fn, hfn⟩ : ∃ f, f = eN x.kind := ⟨_, rfl⟩
  obtain ⟨ft, hft⟩ : ∃ f, f = eT x.kind := ⟨_, rfl⟩
  obtain ⟨fv, hfv⟩ : ∃ f, f = eV x.kind := ⟨_, rfl⟩
  obtain ⟨F, hF⟩ : ∃ F, F = str (eLt x.kind) := ⟨_, rfl⟩
  obtain ⟨M, hM⟩ : ∃ M, M = str (eNm x.kind) := ⟨_, rfl⟩
  obtain ⟨A, hA⟩ : ∃ A, A = str (Lib.itoa x.id) := ⟨_, rfl⟩
  obtain ⟨Bq, hBq⟩ : ∃ A, A = str (Lib.itoa x.time) := ⟨_, rfl⟩
  obtain ⟨T, hT⟩ : ∃ A, A = str (64 :: Lib.itoa x.time) := ⟨_, rfl⟩
  obtain ⟨ZA, hZA⟩ : ∃ A, A = str (Lib.itoa x.a) := ⟨_, rfl⟩
  obtain ⟨ZB, hZB⟩ : ∃ A, A = str (Lib.itoa x.b) := ⟨_, rfl⟩
  obtain ⟨ZN, hZN⟩ : ∃ A, A = str (qt x.name) := ⟨_, rfl⟩
  obtain ⟨ZT, hZT⟩ : ∃ A, A = str (qt x.text) := ⟨_, rfl⟩
  obtain ⟨ZV, hZV⟩ : ∃ A, A = str x.val.pv := ⟨_, rfl⟩
  obtain ⟨L0, hL0⟩ : ∃ L : List ByteArray, L = [A, T, M] := ⟨_, rfl⟩
  obtain ⟨L1, hL1⟩ : ∃ L : List ByteArray, L = if fa = true then L0 ++ [ZA] else L0 := ⟨_, rfl⟩
  obtain ⟨L2, hL2⟩ : ∃ L : List ByteArray, L = if fb = true then L1 ++ [ZB] else L1 := ⟨_, rfl⟩
  obtain ⟨L3, hL3⟩ : ∃ L : List ByteArray, L = if fn = true then L2 ++ [ZN] else L2 := ⟨_, rfl⟩
  obtain ⟨L4, hL4⟩ : ∃ L : List ByteArray, L = if ft = true then L3 ++ [ZT] else L3 := ⟨_, rfl⟩
  obtain ⟨L5, hL5⟩ : ∃ L : List ByteArray, L = if fv = true then L4 ++ [ZV] else L4 := ⟨_, rfl⟩
  have hjoin : Lib.join (L5.map (·.data.toList)) [32] = LN := by
    rw [← hwl, ← hfa, ← hfb, ← hfn, ← hft, ← hfv, hL5, if_oW fv _ ZV _ hZV, hL4, if_oW ft _ ZT _ hZT, hL3, if_oW fn _ ZN _ hZN, hL2, if_oW fb _ ZB _ hZB, hL1, if_oW fa _ ZA _ hZA, hL0, hA, hT, hM]
    simp only [List.map_cons, List.map_nil, str_datE]
  have hlen : L0.length ≤ 3 ∧ L1.length ≤ 4 ∧ L2.length ≤ 5 ∧ L3.length ≤ 6 ∧ L4.length ≤ 7 ∧ L5.length ≤ 8 ∧ 3 ≤ L5.length := by
    have q0 : L0.length = 3 := by rw [hL0]; rfl
    have q1 := if_len fa L0 ZA
    have q2 := if_len fb L1 ZB
    have q3 := if_len fn L2 ZN
    have q4 := if_len ft L3 ZT
    have q5 := if_len fv L4 ZV
    rw [← hL1] at q1
    rw [← hL2] at q2
    rw [← hL3] at q3
    rw [← hL4] at q4
    rw [← hL5] at q5
    omega
  rw [← hF, ← hfa] at HFA
  rw [← hF, ← hfb] at HFB
  rw [← hF, ← hfn] at HFN
  rw [← hF, ← hft] at HFT
  rw [← hF, ← hfv] at HFV
  rw [← hF, ← hM] at AB
  have c2 := Cw1.out.c2
  obtain ⟨k, hk⟩ : ∃ k, k = x.kind := ⟨_, rfl⟩
  rw [← hk] at AB c2
  obtain ⟨i, hi⟩ : ∃ i, i = x.id := ⟨_, rfl⟩
  obtain ⟨t, ht⟩ : ∃ i, i = x.time := ⟨_, rfl⟩
  have K01 := Lib.hid (show ∀ W, Below w1.heap.size w1 W → W.cell? ⟨g, 0, none⟩ = some (.int .i64 i) ∧ W.cell? ⟨g, 1, none⟩ = some (.int .i64 t) from fun W h => by rw [hi, ht]; exact ⟨(ROW.out W h).c0, (ROW.out W h).c1⟩)
  have CI := Lib.hid (show ∀ W, Below w1.heap.size w1 W → Calls Tryz.prog 95 #[.int .i64 i] W fun e w' => e = .returned (.string A) ∧ Below W.heap.size W w' from fun W h => by rw [hi, hA]; exact IT.out x.id BD.out.id W h)
  have CT := Lib.hid (show ∀ W, Below w1.heap.size w1 W → Calls Tryz.prog 96 #[.int .i64 t] W fun e w' => e = .returned (.string Bq) ∧ Below W.heap.size W w' from fun W h => by rw [ht, hBq]; exact DE.out x.time BD.out.time W h)
  have CA := Lib.hid (show ∀ W, Below w1.heap.size w1 W → Calls Tryz.prog 96 #[.int .i64 x.a] W fun e w' => e = .returned (.string ZA) ∧ Below W.heap.size W w' from fun W h => by rw [hZA]; exact DE.out x.a BD.out.a W h)
  have CB := Lib.hid (show ∀ W, Below w1.heap.size w1 W → Calls Tryz.prog 96 #[.int .i64 x.b] W fun e w' => e = .returned (.string ZB) ∧ Below W.heap.size W w' from fun W h => by rw [hZB]; exact DE.out x.b BD.out.b W h)
  have CN := Lib.hid (show ∀ W, Below w1.heap.size w1 W → Calls Tryz.prog 88 #[.string (str x.name)] W fun e w' => e = .returned (.string ZN) ∧ Below W.heap.size W w' from fun W h => by rw [hZN]; exact QT.out x.name (by have := SZ.out; omega) W)
  have CX := Lib.hid (show ∀ W, Below w1.heap.size w1 W → Calls Tryz.prog 88 #[.string (str x.text)] W fun e w' => e = .returned (.string ZT) ∧ Below W.heap.size W w' from fun W h => by rw [hZT]; exact QT.out x.text (by have := SZ.out; omega) W)
  have CV := Lib.hid (show ∀ W, Below w1.heap.size w1 W → Calls Tryz.prog 89 #[.agg x.val.cells.toArray] W fun e w' => e = .returned (.string ZV) ∧ Below W.heap.size W w' from fun W h => by rw [hZV]; exact VP.out W h)
  have hadd : (ByteArray.mk #[64]) ++ Bq = T := by rw [hBq, hT]; exact str_appE [64] (Lib.itoa x.time)
  have hbs : Bq.size ≤ 21 := by rw [hBq, str_sizeX]; exact itoa_len _ BD.out.time
  have HL0 := Lib.hid hL0
  have HL1 := Lib.hid hL1
  have HL2 := Lib.hid hL2
  have HL3 := Lib.hid hL3
  have HL4 := Lib.hid hL4
  have HL5 := Lib.hid hL5
  have HJ := Lib.hid hjoin
  have HLEN := Lib.hid hlen
  have HADD := Lib.hid hadd
  have HBS := Lib.hid hbs
  clear hwl hLN hfa hfb hfn hft hfv hF hM hA hBq hT hZA hZB hZN hZT hZV hL0 hL1 hL2 hL3 hL4 hL5 hjoin hlen hk hi ht hadd hbs HK FI hx hv hN he DE IT QT VP
  go_enter Tryz.func46, Tryz.ntmps46
  go_upto_region 1 with fail
  rw [← Hw1.out, ← Hg.out]
  go_wp2_with fail
  refine AB.out.mono ?_
  rintro e w2 ⟨rfl, n2, hw2⟩
  have B2 := Lib.hid (show Below w1.heap.size w1 w2 by rw [hw2]; exact below_drew' n2)
  clear hw2
  go_upto_region 2 with fail
  clear c2
  refine wp_region_slotsG (by kernel_rfl) (by kernel_rfl)
    (fun y => ⟨#[.agg x.cells.toArray, .pointer (some ⟨g, 0, none⟩), .string ⟨#[]⟩, .string M, .string F, y 9, .tuple #[.string M, .string F], .pointer (some ⟨g, 2, none⟩), .int .i64 k, .tuple #[.string M, .string F], .string M, .string F, y 0, y 1, y 2, y 3, y 4, y 5, y 6, y 7, y 8, undef, undef, undef, undef, undef, undef, undef, undef, undef, undef, undef, undef, undef, undef, undef, undef, undef, undef, undef, undef, undef, undef, undef, undef, undef, undef, undef, undef, undef, undef, undef, undef, undef, undef, undef, undef, undef, undef, undef, undef, undef, undef], []⟩)
    (fun j q W => match j with | 0 => q = .pointer (some ⟨g, 0, none⟩) | 1 => q = .int .i64 i | 2 => q = .string A | 3 => q = .pointer (some ⟨g, 1, none⟩) | 4 => q = .int .i64 t | 5 => q = .string Bq | 6 => q = .string T | 7 => q = .string M | 8 => ∃ g8, q = .slice (some ⟨g8, 0, none⟩) 3 3 ∧ w1.heap.size ≤ g8 ∧ W.heap[g8]? = some (.cells #[.string A, .string T, .string M] 9 (0, 0)) | 9 => ∃ g8, q = .slice (some ⟨g8, 0, none⟩) 3 3 ∧ w1.heap.size ≤ g8 ∧ W.heap[g8]? = some (.cells #[.string A, .string T, .string M] 9 (0, 0)) | _ => True)
    (fun L W => Below w1.heap.size w1 W) (fun W W' => Below W.heap.size W W') ?_ ?_ ?_ (fun _ => undef) rfl (below_drewG B2.out 1)
  · intro j q W W' hr hf
    match j, hf with
    | 8, ⟨g8, h1, h2, h3⟩ => exact ⟨g8, h1, h2, (hr.block g8 (lt_of_rowW h3)).trans h3⟩
    | 9, ⟨g8, h1, h2, h3⟩ => exact ⟨g8, h1, h2, (hr.block g8 (lt_of_rowW h3)).trans h3⟩
    | 0, h => exact h
    | 1, h => exact h
    | 2, h => exact h
    | 3, h => exact h
    | 4, h => exact h
    | 5, h => exact h
    | 6, h => exact h
    | 7, h => exact h
    | k + 10, _ => trivial
  · intro i' o ho L y wx hd hi' hx hs
    match i', ho with
    | 0, ho =>
      obtain rfl := Option.some.inj ho
      exact .inl ⟨rfl, slot_run (v := .pointer (some ⟨g, 0, none⟩)) (w' := wx) rfl ⟨_, rfl, Below.refl _ _, rfl, hs⟩⟩
    | 1, ho =>
      obtain rfl := Option.some.inj ho
      refine .inl ⟨rfl, ?_⟩
      have y0 : y 0 = .pointer (some ⟨g, 0, none⟩) := hx 0 (hd ⟨0, .data⟩ (by simp) rfl)
      have hc := (K01.out wx hs).1
      refine slot_run (v := .int .i64 i) (w' := wx) ?_ ⟨_, rfl, Below.refl _ _, rfl, hs⟩
      refine runWithK (fun z => match z with | .tmp 12 => y 0 | .const c => c | _ => undef) (by kernel_rfl) ?_
      rw [y0]
      go_simp
    | 2, ho =>
      obtain rfl := Option.some.inj ho
      refine .inl ⟨rfl, ?_⟩
      have y0 : y 1 = .int .i64 i := hx 1 (hd ⟨1, .data⟩ (by simp) rfl)
      refine slot_call #[.int .i64 i] rfl Tryz.func95 (by kernel_rfl) (by kernel_rfl) (by simp [Act.eval, y0]) ?_
      refine (CI.out wx hs).mono ?_
      rintro e w' ⟨rfl, hb⟩
      exact ⟨_, rfl, _, rfl, hb, rfl, hs.trans (hb.mono hs.size)⟩
    | 3, ho =>
      obtain rfl := Option.some.inj ho
      exact .inl ⟨rfl, slot_run (v := .pointer (some ⟨g, 1, none⟩)) (w' := wx) rfl ⟨_, rfl, Below.refl _ _, rfl, hs⟩⟩
    | 4, ho =>
      obtain rfl := Option.some.inj ho
      refine .inl ⟨rfl, ?_⟩
      have y0 : y 3 = .pointer (some ⟨g, 1, none⟩) := hx 3 (hd ⟨3, .data⟩ (by simp) rfl)
      have hc := (K01.out wx hs).2
      refine slot_run (v := .int .i64 t) (w' := wx) ?_ ⟨_, rfl, Below.refl _ _, rfl, hs⟩
      refine runWithK (fun z => match z with | .tmp 15 => y 3 | .const c => c | _ => undef) (by kernel_rfl) ?_
      rw [y0]
      go_simp
    | 5, ho =>
      obtain rfl := Option.some.inj ho
      refine .inl ⟨rfl, ?_⟩
      have y0 : y 4 = .int .i64 t := hx 4 (hd ⟨4, .data⟩ (by simp) rfl)
      refine slot_call #[.int .i64 t] rfl Tryz.func96 (by kernel_rfl) (by kernel_rfl) (by simp [Act.eval, y0]) ?_
      refine (CT.out wx hs).mono ?_
      rintro e w' ⟨rfl, hb⟩
      exact ⟨_, rfl, _, rfl, hb, rfl, hs.trans (hb.mono hs.size)⟩
    | 6, ho =>
      obtain rfl := Option.some.inj ho
      refine .inl ⟨rfl, ?_⟩
      have y0 : y 5 = .string Bq := hx 5 (hd ⟨5, .data⟩ (by simp) rfl)
      have hsz := HBS.out
      have hsz2 : ¬ maxLen < 1 + Bq.size := by unfold maxLen; omega
      refine slot_run (v := .string T) (w' := wx) ?_ ⟨_, rfl, Below.refl _ _, rfl, hs⟩
      refine runWithK (fun z => match z with | .tmp 17 => y 5 | .const c => c | _ => undef) (by kernel_rfl) ?_
      rw [y0, ← HADD.out]
      go_simp
      omega
    | 7, ho =>
      obtain rfl := Option.some.inj ho
      exact .inl ⟨rfl, slot_run (v := .string M) (w' := wx) rfl ⟨_, rfl, Below.refl _ _, rfl, hs⟩⟩
    | 8, ho =>
      obtain rfl := Option.some.inj ho
      refine .inl ⟨rfl, ?_⟩
      have y0 : y 2 = .string A := hx 2 (hd ⟨2, .data⟩ (by simp) rfl)
      have y1 : y 6 = .string T := hx 6 (hd ⟨6, .data⟩ (by simp) rfl)
      have y2 : y 7 = .string M := hx 7 (hd ⟨7, .data⟩ (by simp) rfl)
      have hb : Below wx.heap.size wx (wx.alloc (.cells #[.string A, .string T, .string M] 9)) := (Below.refl _ _).alloc (Nat.le_refl _) _
      refine slot_run (v := .slice (some ⟨wx.heap.size, 0, none⟩) 3 3) (w' := wx.alloc (.cells #[.string A, .string T, .string M] 9)) ?_ ⟨_, rfl, hb, ⟨_, rfl, hs.size, heap_alloc_new _ _⟩, hs.trans (hb.mono hs.size)⟩
      refine runWithK (fun z => match z with | .tmp 14 => y 2 | .tmp 18 => y 6 | .tmp 19 => y 7 | .const c => c | _ => undef) (by kernel_rfl) ?_
      rw [y0, y1, y2]
      go_simp
    | 9, ho =>
      obtain rfl := Option.some.inj ho
      refine .inl ⟨rfl, ?_⟩
      obtain ⟨g8, y0, h2, h3⟩ := hx 8 (hd ⟨8, .data⟩ (by simp) rfl)
      refine slot_run (v := .slice (some ⟨g8, 0, none⟩) 3 3) (w' := wx) ?_ ⟨_, rfl, Below.refl _ _, ⟨g8, rfl, h2, h3⟩, hs⟩
      refine runWithK (fun z => match z with | .tmp 20 => y 8 | .const c => c | _ => undef) (by kernel_rfl) ?_
      rw [y0]
      kernel_rfl
    | k + 10, ho => simp at ho
  · intro L y w3 hall hx hs
    obtain ⟨g8, y9, h2, h3⟩ := hx 9 (hall 9 (by decide))
    obtain ⟨sw, hsw⟩ : ∃ sw, sw = Value.slice (some ⟨g8, 0, none⟩) 3 3 := ⟨_, rfl⟩
    rw [y9, ← hsw]
    have y3 : y 7 = .string M := hx 7 (hall 7 (by decide))
    have C1 := Lib.hid (show WdS w1 L0 sw w3 from by
      rw [HL0.out, hsw]
      exact ⟨_, _, rfl, ⟨rfl, .inr ⟨g8, 3, _, rfl, h2, h3, Nat.le_refl _, by unfold maxLen; omega, rfl, rfl⟩⟩, hs⟩)
    clear hx hall y9 h2 h3 hs B2 y3 hsw
    dsimp only
    go_upto_if 22 with (with_reducible refine (HFA.out _).mono ?_; rintro _ wz ⟨rfl, hwz⟩; have hwz2 := hwz.symm; subst hwz2; clear hwz)
    go_cut [5] (fun s wx => WdS w1 L1 s wx)
    case first =>
      cases fa
      · have hl : L1 = L0 := HL1.out
        have RL := Lib.hid C1.out
        rw [← hl] at RL
        clear hl
        go_wp2_with fail
        go_meet
        all_goals exact RL.out
      · have hl : L1 = L0 ++ [ZA] := HL1.out
        obtain ⟨ao, cp, es, own, hb⟩ := C1.out
        have cc := (ROW.out w3 hb).c3
        have CC := Lib.hid (CA.out w3 hb)
        have HBc := Lib.hid hb
        have OWN := Lib.hid own
        have HLl := Lib.hid hl
        have hlim : L0.length + 1 ≤ 1000000 := by have := HLEN.out; omega
        have HLIM := Lib.hid hlim
        clear own hb hl hlim
        subst es
        go_wp2_with fail
        refine CC.out.mono ?_
        rintro e wy ⟨rfl, hby⟩
        have hb3 := HBc.out.trans (hby.mono HBc.out.size)
        have OW3 := Lib.hid (own_belowK OWN.out hby)
        have HB3 := Lib.hid hb3
        clear hby hb3
        go_wp2_with (with_reducible show wpList _ _ _ _ _ _; refine wpList_apStr rfl (.tmp 23) (.tmp 27) rfl w1.heap.size ao cp L0 L0.length rfl rfl OW3.out HB3.out.size ZA rfl HLIM.out ?_; intro a2 c2 wq own4 hb4 _)
        have RL := Lib.hid (WdS.end own4 (HB3.out.trans hb4) HLl.out)
        clear own4 hb4
        go_wp2_with fail
        go_meet
        all_goals exact RL.out
    case rest =>
      obtain ⟨w4, rfl⟩ : ∃ wd : World, wd = wc := ⟨_, rfl⟩
      have C2 := Lib.hid hcut
      clear hcut C1
      go_upto_if 30 with (with_reducible refine (HFB.out _).mono ?_; rintro _ wz ⟨rfl, hwz⟩; have hwz2 := hwz.symm; subst hwz2; clear hwz)
      go_cut [5] (fun s wx => WdS w1 L2 s wx)
      case first =>
        cases fb
        · have hl : L2 = L1 := HL2.out
          have RL := Lib.hid C2.out
          rw [← hl] at RL
          clear hl
          go_wp2_with fail
          go_meet
          all_goals exact RL.out
        · have hl : L2 = L1 ++ [ZB] := HL2.out
          obtain ⟨ao, cp, es, own, hb⟩ := C2.out
          have cc := (ROW.out w4 hb).c4
          have CC := Lib.hid (CB.out w4 hb)
          have HBc := Lib.hid hb
          have OWN := Lib.hid own
          have HLl := Lib.hid hl
          have hlim : L1.length + 1 ≤ 1000000 := by have := HLEN.out; omega
          have HLIM := Lib.hid hlim
          clear own hb hl hlim
          subst es
          go_wp2_with fail
          refine CC.out.mono ?_
          rintro e wy ⟨rfl, hby⟩
          have hb3 := HBc.out.trans (hby.mono HBc.out.size)
          have OW3 := Lib.hid (own_belowK OWN.out hby)
          have HB3 := Lib.hid hb3
          clear hby hb3
          go_wp2_with (with_reducible show wpList _ _ _ _ _ _; refine wpList_apStr rfl (.tmp 31) (.tmp 35) rfl w1.heap.size ao cp L1 L1.length rfl rfl OW3.out HB3.out.size ZB rfl HLIM.out ?_; intro a2 c2 wq own4 hb4 _)
          have RL := Lib.hid (WdS.end own4 (HB3.out.trans hb4) HLl.out)
          clear own4 hb4
          go_wp2_with fail
          go_meet
          all_goals exact RL.out
      case rest =>
        obtain ⟨w5, rfl⟩ : ∃ wd : World, wd = wc := ⟨_, rfl⟩
        have C3 := Lib.hid hcut
        clear hcut C2
        go_upto_if 38 with (with_reducible refine (HFN.out _).mono ?_; rintro _ wz ⟨rfl, hwz⟩; have hwz2 := hwz.symm; subst hwz2; clear hwz)
        go_cut [5] (fun s wx => WdS w1 L3 s wx)
        case first =>
          cases fn
          · have hl : L3 = L2 := HL3.out
            have RL := Lib.hid C3.out
            rw [← hl] at RL
            clear hl
            go_wp2_with fail
            go_meet
            all_goals exact RL.out
          · have hl : L3 = L2 ++ [ZN] := HL3.out
            obtain ⟨ao, cp, es, own, hb⟩ := C3.out
            have cc := (ROW.out w5 hb).c5
            have CC := Lib.hid (CN.out w5 hb)
            have HBc := Lib.hid hb
            have OWN := Lib.hid own
            have HLl := Lib.hid hl
            have hlim : L2.length + 1 ≤ 1000000 := by have := HLEN.out; omega
            have HLIM := Lib.hid hlim
            clear own hb hl hlim
            subst es
            go_wp2_with fail
            refine CC.out.mono ?_
            rintro e wy ⟨rfl, hby⟩
            have hb3 := HBc.out.trans (hby.mono HBc.out.size)
            have OW3 := Lib.hid (own_belowK OWN.out hby)
            have HB3 := Lib.hid hb3
            clear hby hb3
            go_wp2_with (with_reducible show wpList _ _ _ _ _ _; refine wpList_apStr rfl (.tmp 39) (.tmp 43) rfl w1.heap.size ao cp L2 L2.length rfl rfl OW3.out HB3.out.size ZN rfl HLIM.out ?_; intro a2 c2 wq own4 hb4 _)
            have RL := Lib.hid (WdS.end own4 (HB3.out.trans hb4) HLl.out)
            clear own4 hb4
            go_wp2_with fail
            go_meet
            all_goals exact RL.out
        case rest =>
          obtain ⟨w6, rfl⟩ : ∃ wd : World, wd = wc := ⟨_, rfl⟩
          have C4 := Lib.hid hcut
          clear hcut C3
          go_upto_if 46 with (with_reducible refine (HFT.out _).mono ?_; rintro _ wz ⟨rfl, hwz⟩; have hwz2 := hwz.symm; subst hwz2; clear hwz)
          go_cut [5] (fun s wx => WdS w1 L4 s wx)
          case first =>
            cases ft
            · have hl : L4 = L3 := HL4.out
              have RL := Lib.hid C4.out
              rw [← hl] at RL
              clear hl
              go_wp2_with fail
              go_meet
              all_goals exact RL.out
            · have hl : L4 = L3 ++ [ZT] := HL4.out
              obtain ⟨ao, cp, es, own, hb⟩ := C4.out
              have cc := (ROW.out w6 hb).c6
              have CC := Lib.hid (CX.out w6 hb)
              have HBc := Lib.hid hb
              have OWN := Lib.hid own
              have HLl := Lib.hid hl
              have hlim : L3.length + 1 ≤ 1000000 := by have := HLEN.out; omega
              have HLIM := Lib.hid hlim
              clear own hb hl hlim
              subst es
              go_wp2_with fail
              refine CC.out.mono ?_
              rintro e wy ⟨rfl, hby⟩
              have hb3 := HBc.out.trans (hby.mono HBc.out.size)
              have OW3 := Lib.hid (own_belowK OWN.out hby)
              have HB3 := Lib.hid hb3
              clear hby hb3
              go_wp2_with (with_reducible show wpList _ _ _ _ _ _; refine wpList_apStr rfl (.tmp 47) (.tmp 51) rfl w1.heap.size ao cp L3 L3.length rfl rfl OW3.out HB3.out.size ZT rfl HLIM.out ?_; intro a2 c2 wq own4 hb4 _)
              have RL := Lib.hid (WdS.end own4 (HB3.out.trans hb4) HLl.out)
              clear own4 hb4
              go_wp2_with fail
              go_meet
              all_goals exact RL.out
          case rest =>
            obtain ⟨w7, rfl⟩ : ∃ wd : World, wd = wc := ⟨_, rfl⟩
            have C5 := Lib.hid hcut
            clear hcut C4
            go_upto_if 54 with (with_reducible refine (HFV.out _).mono ?_; rintro _ wz ⟨rfl, hwz⟩; have hwz2 := hwz.symm; subst hwz2; clear hwz)
            go_cut [5] (fun s wx => WdS w1 L5 s wx)
            case first =>
              cases fv
              · have hl : L5 = L4 := HL5.out
                have RL := Lib.hid C5.out
                rw [← hl] at RL
                clear hl
                go_wp2_with fail
                go_meet
                all_goals exact RL.out
              · have hl : L5 = L4 ++ [ZV] := HL5.out
                obtain ⟨ao, cp, es, own, hb⟩ := C5.out
                have KV := Lib.hid ((ROW.out w7 hb).cv)
                have CC := Lib.hid (CV.out w7 hb)
                have HBc := Lib.hid hb
                have OWN := Lib.hid own
                have HLl := Lib.hid hl
                have hlim : L4.length + 1 ≤ 1000000 := by have := HLEN.out; omega
                have HLIM := Lib.hid hlim
                clear own hb hl hlim
                subst es
                go_wp2_with (with_reducible show wpList _ _ _ _ _ _; refine wpList_load_allW rfl 26 (.tmp 56) rfl ⟨g,7,none⟩ rfl x.val.cells _ KV.out Tryz.underlying26 rfl (Tryz.valSize x.val) ?_)
                refine CC.out.mono ?_
                rintro e wy ⟨rfl, hby⟩
                have hb3 := HBc.out.trans (hby.mono HBc.out.size)
                have OW3 := Lib.hid (own_belowK OWN.out hby)
                have HB3 := Lib.hid hb3
                clear hby hb3
                go_wp2_with (with_reducible show wpList _ _ _ _ _ _; refine wpList_apStr rfl (.tmp 55) (.tmp 59) rfl w1.heap.size ao cp L4 L4.length rfl rfl OW3.out HB3.out.size ZV rfl HLIM.out ?_; intro a2 c2 wq own4 hb4 _)
                have RL := Lib.hid (WdS.end own4 (HB3.out.trans hb4) HLl.out)
                clear own4 hb4
                go_wp2_with fail
                go_meet
                all_goals exact RL.out
            case rest =>
              obtain ⟨w8, rfl⟩ : ∃ wd : World, wd = wc := ⟨_, rfl⟩
              have C6 := Lib.hid hcut
              clear hcut C5
              obtain ⟨ao, cp, es, own, hb⟩ := C6.out
              subst es
              have hl := HLEN.out
              obtain ⟨gw, cq, egw, hgw, hrow, hcap⟩ : ∃ gw cq, (Value.slice ao L5.length cp) = .slice (some ⟨gw, 0, none⟩) L5.length cq ∧ gw < w8.heap.size ∧ (∀ (j : Nat) s, L5[j]? = some s → w8.cell? ⟨gw, 0 + j, none⟩ = some (.string s)) ∧ L5.length ≤ cq := by
                rcases own.2 with ⟨_, e0⟩ | ⟨gw, cap, cur, e1, hB, hh, h1, h2, h3, h4⟩
                · omega
                · refine ⟨gw, cap, e1, lt_of_rowW hh, fun j s hj => ?_, h1⟩
                  rw [Nat.zero_add, cell_of_rowW w8 gw j _ _ _ hh]
                  have hq : (svs L5)[j]? = some (.string s) := by simp [svs, hj]
                  rw [← h4] at hq
                  rw [List.getElem?_take] at hq
                  split at hq
                  · simpa using hq
                  · cases hq
              injection egw with e1 e2 e3
              subst e1 e3
              have JN := Lib.hid (Tryz.strings_Join gw 0 cp L5 ⟨#[32]⟩ w8 hrow hgw (by omega) hcap (by rw [show (⟨#[32]⟩ : ByteArray).data.toList = [32] from rfl, HJ.out]; have := HLN.out; omega))
              rw [show (⟨#[32]⟩ : ByteArray).data.toList = [32] from rfl, HJ.out, show (⟨LN.toArray⟩ : ByteArray) = str LN from rfl, ← HSL.out] at JN
              have HB := Lib.hid (Bw1.out.trans (hb.mono Bw1.out.size))
              clear hrow hgw hcap hb own hl
              go_wp2_with fail
              refine JN.out.mono ?_
              rintro e wj ⟨rfl, hbj⟩
              have RL := Lib.hid (HB.out.trans (hbj.mono HB.out.size))
              clear hbj
              go_wp2_with fail
              go_ret
              exact ⟨rfl, RL.out⟩
end Go.Proofs.YtnfobnnbeefeeaaGreatDoor.Wi
