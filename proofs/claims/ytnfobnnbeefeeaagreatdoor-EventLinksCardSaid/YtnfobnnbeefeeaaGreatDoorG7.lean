/- The program's Quote. -/
import Derived.Test.YtnfobnnbeefeeaaGreatDoorG3
import Derived.Test.YtnfobnnbeefeeaaGreatDoorG2
import Derived.Lib.ItoaWalk
import Derived.Test.YtnfobnnbeefeeaaGreatDoorG4
import Derived.Test.YtnfobnnbeefeeaaGreatDoorSq
import Derived.Lib.ItoaLen
namespace Go.Proofs.YtnfobnnbeefeeaaGreatDoor.Wi
open Go Go.RowKit
set_option linter.unusedVariables false
set_option linter.unusedSimpArgs false
def hxd (i : Nat) : UInt8 := UInt8.ofNat (if i < 10 then 48 + i else 87 + i)
/-- A byte, quoted. -/
def qc (c : UInt8) : List UInt8 := if c.toNat = 34 ∨ c.toNat = 92 then [92, c] else if 32 ≤ c.toNat ∧ c.toNat ≤ 126 then [c] else [92, 120, hxd (c.toNat / 16), hxd (c.toNat % 16)]
def qcs (l : List UInt8) : List UInt8 := (l.map qc).flatten
def qt (l : List UInt8) : List UInt8 := [34] ++ qcs l ++ [34]
def hexS : ByteArray := ⟨#[48, 49, 50, 51, 52, 53, 54, 55, 56, 57, 97, 98, 99, 100, 101, 102]⟩
theorem hexS_size : hexS.size = 16 := rfl
theorem hexS_at : ∀ i : Fin 16, hexS.data.toList.getD i.val 0 = hxd i.val := by decide +kernel
theorem hex_get (i : Nat) (hi : i < 16) (h : i < hexS.size) : hexS[i]'h = hxd i := (Lib.getD_at hexS i h).trans (hexS_at ⟨i, hi⟩)
theorem qc_len (c : UInt8) : (qc c).length ≤ 4 := by 
  unfold qc
  by_cases h1 : c.toNat = 34 ∨ c.toNat = 92
  · rw [if_pos h1]; simp
  rw [if_neg h1]
  by_cases h2 : 32 ≤ c.toNat ∧ c.toNat ≤ 126
  · rw [if_pos h2]; simp
  · rw [if_neg h2]; simp
theorem qcs_len : ∀ l : List UInt8, (qcs l).length ≤ 4 * l.length
  | [] => by simp [qcs]
  | c :: l => by
    have h1 := qc_len c
    have h2 := qcs_len l
    simp only [qcs, List.map_cons, List.flatten_cons, List.length_append, List.length_cons] at h2 ⊢
    omega
theorem qcs_app (a b : List UInt8) : qcs (a ++ b) = qcs a ++ qcs b := by simp [qcs]
/-- What is left by a function that writes behind a row of bytes. -/
def ApPost (B : Nat) (w : World) (zs : List UInt8) (e : Ending) (w' : World) : Prop := ∃ ao c, e = .returned (.slice ao zs.length c) ∧ w'.ownsRow B 5 1 (.slice ao zs.length c) zs.length (bvs zs) ∧ Below B w w'
theorem src_bsK (w : World) (cs : Array Value) (ys : List UInt8) (k : Nat) (hcs : cs = (bvs ys).toArray) (hk : ys.length = k) : Go.Src Tryz.prog 1 36 (.slice (some ⟨w.heap.size, 0, none⟩) k k) k (bvs ys) (w.alloc (.cells cs 5)) := by
  subst hcs
  refine Src.any _ (e' := 5) Tryz.underlying36 _ k k (bvs ys) (by rw [bvs_length, hk, Nat.mul_one]) (fun h => by cases h) (fun a ha j u hu => ?_) (bvs_one ys)
  cases ha
  rw [Addr.add_mid, Nat.zero_add, cell_of_row _ _ j _ _ _ (heap_alloc_new w _)]
  simpa using hu
/-- Some bytes of the text are written behind a row. -/
theorem wpList_apbK {ops : Array Oper} {rest : List Oper} {o : Oper} {a : Act} {Q : Exit → Act → World → Prop} {w : World} (hgd : o.guard = none) (s x : Operand)
    (ho : o.op = .call { callee := .builtin .append, args := #[s, x], argTypes := #[36, 36] })
    (B : Nat) (ao : Option Addr) (c : Nat) (xs : List UInt8) (n : Nat) (hn : n = xs.length) (hsv : a.eval s = .slice ao n c) (own : w.ownsRow B 5 1 (.slice ao n c) n (bvs xs)) (hB : B ≤ w.heap.size)
    (cs : Array Value) (ys : List UInt8) (k : Nat) (hcs : cs = (bvs ys).toArray) (hk : ys.length = k) (hx : a.eval x = .slice (some ⟨w.heap.size, 0, none⟩) k k) (hlim : n + k ≤ 140737488355328)
    (h : ∀ ao' c' w', w'.ownsRow B 5 1 (.slice ao' (n + k) c') (n + k) (bvs (xs ++ ys)) → Below B w w' → (∀ k, k < w.heap.size → some k ≠ (Value.slice ao n c).ownBlock → w'.heap[k]? = w.heap[k]?) → wpList Tryz.prog ops Q rest (a.put o.dst (.slice ao' (n + k) c')) w') :
    wpList Tryz.prog ops Q (o :: rest) a (w.alloc (.cells cs 5)) := by
  obtain ⟨i0, hi, hz0, hz1, hz2⟩ := info_parts Tryz.info5
  refine wpList_append_own_src _ hgd s x 36 36 ho B 5 i0 (.int .u8 0) 1 1 Tryz.underlying36 hi hz0 hz1 hz2 rfl _ n (bvs xs) hsv (own.alloc _) _ k (bvs ys) hx (src_bsK w cs ys k hcs hk) (by unfold maxLen; omega) (by omega) (by simp; omega) ?_
  intro v' w' hg
  obtain ⟨a2, c2, rfl, own4, hb4, blk4⟩ := grew_oneK own hB (Nat.le_refl _) hg
  rw [← bvs_append] at own4
  exact h a2 c2 w' own4 hb4 blk4
theorem wpList_apb {ops : Array Oper} {rest : List Oper} {o : Oper} {a : Act} {Q : Exit → Act → World → Prop} {w : World} (hgd : o.guard = none) (s x : Operand)
    (ho : o.op = .call { callee := .builtin .append, args := #[s, x], argTypes := #[36, 36] })
    (B : Nat) (ao : Option Addr) (c : Nat) (xs : List UInt8) (n : Nat) (hn : n = xs.length) (hsv : a.eval s = .slice ao n c) (own : w.ownsRow B 5 1 (.slice ao n c) n (bvs xs)) (hB : B ≤ w.heap.size)
    (cs : Array Value) (ys : List UInt8) (k : Nat) (hcs : cs = (bvs ys).toArray) (hk : ys.length = k) (hx : a.eval x = .slice (some ⟨w.heap.size, 0, none⟩) k k) (hlim : n + k ≤ 140737488355328)
    (h : ∀ ao' c' w', w'.ownsRow B 5 1 (.slice ao' (n + k) c') (n + k) (bvs (xs ++ ys)) → Below B w w' → wpList Tryz.prog ops Q rest (a.put o.dst (.slice ao' (n + k) c')) w') :
    wpList Tryz.prog ops Q (o :: rest) a (w.alloc (.cells cs 5)) :=
  wpList_apbK hgd s x ho B ao c xs n hn hsv own hB cs ys k hcs hk hx hlim fun a2 c2 w2 h1 h2 _ => h a2 c2 w2 h1 h2
theorem ApPost.mk' {B n k : Nat} {w w' : World} {xs ys : List UInt8} {ao : Option Addr} {c : Nat} (hn : n = xs.length) (hk : ys.length = k) (own : w'.ownsRow B 5 1 (.slice ao (n + k) c) (n + k) (bvs (xs ++ ys))) (hb : Below B w w') : ApPost B w (xs ++ ys) (.returned (.slice ao (n + k) c)) w' := by
  have h : n + k = (xs ++ ys).length := by rw [List.length_append]; omega
  rw [h] at own ⊢
  exact ⟨ao, c, rfl, own, hb⟩
set_option maxHeartbeats 4000000 in
theorem apchar_any (B : Nat) (ao : Option Addr) (cp : Nat) (xs : List UInt8) (c : UInt8) (w : World) (own : w.ownsRow B 5 1 (.slice ao xs.length cp) xs.length (bvs xs)) (hB : B ≤ w.heap.size) (hlim : xs.length + 4 ≤ 140737488355328) :
    Calls Tryz.prog 144 #[.slice ao xs.length cp, .int .u8 (c.toNat : Int)] w (ApPost B w (xs ++ qc c)) := by
  obtain ⟨n, hn⟩ : ∃ n, n = xs.length := ⟨_, rfl⟩
  obtain ⟨m, hm⟩ : ∃ m, m = c.toNat := ⟨_, rfl⟩
  obtain ⟨Z, hZ⟩ : ∃ Z, Z = qc c := ⟨_, rfl⟩
  have hmb : m < 256 := by have := c.toNat_lt; omega
  rw [← hn] at own hlim ⊢
  rw [← hm, ← hZ]
  unfold qc at hZ
  rw [← hm] at hZ
  have HN := Lib.hid hn
  have HM := Lib.hid hm
  have HZ := Lib.hid hZ
  have OWN := Lib.hid own
  have HBw := Lib.hid hB
  have HLIM := Lib.hid hlim
  clear hn hm hZ own hB hlim
  by_cases h1 : m = 34 ∨ m = 92
  · have hz := HZ.out
    rw [if_pos h1] at hz
    subst hz
    rcases h1 with rfl | rfl
    · go_enter Tryz.func144, Tryz.ntmps144
      go_wp2_with (at_builtin; refine wpList_apb rfl (.tmp 12) (.tmp 14) rfl B _ _ xs n HN.out rfl OWN.out HBw.out _ [92, c] 2 (by rw [bvs, List.map_cons, List.map_cons, bv, bv, ← HM.out]; rfl) rfl rfl (by have := HLIM.out; omega) ?next)
      case next =>
        rintro ao' c' w' own' hb'
        go_wp2_with fail
        go_ret
        exact ApPost.mk' HN.out rfl own' hb'
    · go_enter Tryz.func144, Tryz.ntmps144
      go_wp2_with (at_builtin; refine wpList_apb rfl (.tmp 12) (.tmp 14) rfl B _ _ xs n HN.out rfl OWN.out HBw.out _ [92, c] 2 (by rw [bvs, List.map_cons, List.map_cons, bv, bv, ← HM.out]; rfl) rfl rfl (by have := HLIM.out; omega) ?next)
      case next =>
        rintro ao' c' w' own' hb'
        go_wp2_with fail
        go_ret
        exact ApPost.mk' HN.out rfl own' hb'
  have hz := HZ.out
  rw [if_neg h1] at hz
  have HZ2 := Lib.hid hz
  have e1 : ((m : Int) == 34) = false := by
    rw [beq_eq_false_iff_ne]; omega
  have e2 : ((m : Int) == 92) = false := by
    rw [beq_eq_false_iff_ne]; omega
  clear hz h1
  by_cases h2 : 32 ≤ m ∧ m ≤ 126
  · have hz := HZ2.out
    rw [if_pos h2] at hz
    subst hz
    have h21 : (32 : Int) ≤ (m : Int) := by omega
    have h22 : (m : Int) ≤ 126 := by omega
    go_enter Tryz.func144, Tryz.ntmps144
    go_wp2_with (at_builtin; refine wpList_apb rfl (.tmp 23) (.tmp 25) rfl B _ _ xs n HN.out rfl OWN.out HBw.out _ [c] 1 (by rw [bvs, List.map_cons, bv, ← HM.out]; rfl) rfl rfl (by have := HLIM.out; omega) ?next)
    case next =>
      rintro ao' c' w' own' hb'
      go_wp2_with fail
      go_ret
      exact ApPost.mk' HN.out rfl own' hb'
  have hz := HZ2.out
  rw [if_neg h2] at hz
  have h3 : ¬ (32 : Int) ≤ (m : Int) ∨ (32 : Int) ≤ (m : Int) ∧ ¬ (m : Int) ≤ 126 := by omega
  have HZ3 := Lib.hid hz
  clear h2 hz
  obtain ⟨d1, hd1⟩ : ∃ d1, d1 = hxd (m / 16) := ⟨_, rfl⟩
  obtain ⟨d2, hd2⟩ : ∃ d2, d2 = hxd (m % 16) := ⟨_, rfl⟩
  have b1 : ∀ h : m / 16 < (ByteArray.mk #[48, 49, 50, 51, 52, 53, 54, 55, 56, 57, 97, 98, 99, 100, 101, 102]).size, (ByteArray.mk #[48, 49, 50, 51, 52, 53, 54, 55, 56, 57, 97, 98, 99, 100, 101, 102])[m / 16]'h = d1 := fun h => (hex_get (m / 16) (by omega) h).trans hd1.symm
  have b2 : ∀ h : m % 16 < (ByteArray.mk #[48, 49, 50, 51, 52, 53, 54, 55, 56, 57, 97, 98, 99, 100, 101, 102]).size, (ByteArray.mk #[48, 49, 50, 51, 52, 53, 54, 55, 56, 57, 97, 98, 99, 100, 101, 102])[m % 16]'h = d2 := fun h => (hex_get (m % 16) (by omega) h).trans hd2.symm
  have q1 : (0 : Int) ≤ (m : Int) / 16 := by omega
  have q2 : (m : Int) / 16 < 16 := by omega
  have q3 : (0 : Int) ≤ (m : Int) % 16 := by omega
  have q4 : (m : Int) % 16 < 16 := by omega
  have hz := HZ3.out
  rw [← hd1, ← hd2] at hz
  subst hz
  clear hd1 hd2 HZ HZ2 HZ3 HM
  rcases h3 with h3 | ⟨h3, h4⟩
  · go_enter Tryz.func144, Tryz.ntmps144
    go_upto_region 5 with fail
    (refine wp_region_quiet_tail_f 7 (by kernel_rfl) (by kernel_rfl) ?_; simp only [List.take_succ_cons, List.take_zero, List.drop_succ_cons, List.drop_zero]; (repeat (go_big_quiet_step (fail))); refine wpQuiet_nil ?_; intro _ hw'; obtain ⟨nq, hw''⟩ := hw'; subst hw'')
    obtain ⟨wg, hwg⟩ : ∃ wg, wg = w.drewN nq := ⟨_, rfl⟩
    rw [← hwg, b1, b2]
    have OWG := Lib.hid (show wg.ownsRow B 5 1 (.slice ao n cp) n (bvs xs) by rw [hwg]; exact OWN.out)
    have HBg := Lib.hid (show B ≤ wg.heap.size by rw [hwg]; exact HBw.out)
    have HBb := Lib.hid (show Below B w wg by rw [hwg]; exact below_drewG (Below.refl _ _) nq)
    clear hwg b1 b2
    go_wp2_with (at_builtin; refine wpList_apb rfl (.tmp 27) (.tmp 34) rfl B _ _ xs n HN.out rfl OWG.out HBg.out _ [92, 120, d1, d2] 4 rfl rfl rfl (by have := HLIM.out; omega) ?next)
    case next =>
      rintro ao' c' w' own' hb'
      go_wp2_with fail
      go_ret
      exact ApPost.mk' HN.out rfl own' (HBb.out.trans hb')
  · go_enter Tryz.func144, Tryz.ntmps144
    go_upto_region 5 with fail
    (refine wp_region_quiet_tail_f 7 (by kernel_rfl) (by kernel_rfl) ?_; simp only [List.take_succ_cons, List.take_zero, List.drop_succ_cons, List.drop_zero]; (repeat (go_big_quiet_step (fail))); refine wpQuiet_nil ?_; intro _ hw'; obtain ⟨nq, hw''⟩ := hw'; subst hw'')
    obtain ⟨wg, hwg⟩ : ∃ wg, wg = w.drewN nq := ⟨_, rfl⟩
    rw [← hwg, b1, b2]
    have OWG := Lib.hid (show wg.ownsRow B 5 1 (.slice ao n cp) n (bvs xs) by rw [hwg]; exact OWN.out)
    have HBg := Lib.hid (show B ≤ wg.heap.size by rw [hwg]; exact HBw.out)
    have HBb := Lib.hid (show Below B w wg by rw [hwg]; exact below_drewG (Below.refl _ _) nq)
    clear hwg b1 b2
    go_wp2_with (at_builtin; refine wpList_apb rfl (.tmp 27) (.tmp 34) rfl B _ _ xs n HN.out rfl OWG.out HBg.out _ [92, 120, d1, d2] 4 rfl rfl rfl (by have := HLIM.out; omega) ?next)
    case next =>
      rintro ao' c' w' own' hb'
      go_wp2_with fail
      go_ret
      exact ApPost.mk' HN.out rfl own' (HBb.out.trans hb')
end Go.Proofs.YtnfobnnbeefeeaaGreatDoor.Wi
/- The program's appendQuote, Quote. -/
namespace Go.Proofs.YtnfobnnbeefeeaaGreatDoor.Wi
open Go Go.RowKit
set_option linter.unusedVariables false
set_option linter.unusedSimpArgs false
theorem own_conv {B : Nat} {w : World} {n c : Nat} {ao : Option Addr} {ys : List UInt8} (h : w.ownsRow B 5 1 (.slice ao n c) n (bvs ys)) (hn : ys.length = n) : (convert 36 9 (.slice ao n c)).run Tryz.prog w = .ok (.string (str ys)) w := by
  refine run_convert_sl hn (fun e => ?_) (fun a ha j u hu => ?_)
  · rcases h.2 with ⟨_, e0⟩ | ⟨g, cap, cur, e1, _⟩
    · exact List.eq_nil_of_length_eq_zero (by omega)
    · injection e1 with e1 _ _
      rw [e] at e1; cases e1
  · obtain ⟨g, e1, _, _, e2⟩ := own_cellK h hu
    rw [ha] at e1
    injection e1 with e1
    rw [e1, Addr.add_mid, Nat.zero_add]
    exact e2
theorem qcs_take {l : List UInt8} {j : Nat} {c : UInt8} (h : l[j]? = some c) : qcs (l.take (j + 1)) = qcs (l.take j) ++ qc c := by
  have e : l.take (j + 1) = l.take j ++ [c] := by rw [List.take_add_one, h]; rfl
  rw [e, qcs_app]
  simp [qcs]
def aqRel (B : Nat) (w : World) (xs l : List UInt8) (i b : Value) (wr : World) : Prop := ∃ (j : Nat) (ao : Option Addr) (c n : Nat), i = .int .i64 (j : Int) ∧ j ≤ l.length ∧ b = .slice ao n c ∧ n = (xs ++ [34] ++ qcs (l.take j)).length ∧ wr.ownsRow B 5 1 (.slice ao n c) n (bvs (xs ++ [34] ++ qcs (l.take j))) ∧ Below B w wr
set_option maxHeartbeats 8000000 in
theorem apquote_any (B : Nat) (ao : Option Addr) (cp : Nat) (xs l : List UInt8) (w : World) (own : w.ownsRow B 5 1 (.slice ao xs.length cp) xs.length (bvs xs)) (hB : B ≤ w.heap.size) (hlim : xs.length + 4 * l.length + 8 ≤ 140737488355328) :
    Calls Tryz.prog 122 #[.slice ao xs.length cp, .string (str l)] w (ApPost B w (xs ++ qt l)) := by
  obtain ⟨n, hn⟩ : ∃ n, n = xs.length := ⟨_, rfl⟩
  obtain ⟨S, hS⟩ : ∃ S, S = str l := ⟨_, rfl⟩
  have hsz := str_sizeX l
  have hat : ∀ (j : Nat) (c : UInt8), l[j]? = some c → ∀ h : j < (str l).size, (str l)[j]'h = c := fun j c hc h => by
    rw [Lib.getD_at (str l) j h, show (str l).data.toList = l from by simp [str], List.getD, hc]; rfl
  rw [← hS] at hsz hat ⊢
  rw [← hn] at own ⊢
  have HAT := Lib.hid hat
  have HN := Lib.hid hn
  have OWN := Lib.hid own
  have HBw := Lib.hid hB
  have HLIM := Lib.hid (show n + 4 * l.length + 8 ≤ 140737488355328 by omega)
  have AC := Lib.hid (apchar_any B)
  have hll : l.length ≤ 140737488355328 := by omega
  clear hat hn own hB hlim hS
  go_enter Tryz.func122, Tryz.ntmps122
  go_wp2_with (at_builtin; refine wpList_apb rfl (.tmp 6) (.tmp 7) rfl B _ _ xs n HN.out rfl OWN.out HBw.out _ [34] 1 rfl rfl rfl (by have := HLIM.out; omega) ?next)
  case next =>
    rintro a1 c1 w1 own1 hb1
    have R0 := Lib.hid (show aqRel B w xs l (.int .i64 0) (.slice a1 (n + 1) c1) w1 from ⟨0, a1, c1, n + 1, rfl, Nat.zero_le _, rfl, by simp [qcs]; exact HN.out, by simpa [qcs] using own1, hb1⟩)
    clear own1 hb1
    go_wp2_with fail
    go_loopw [11, 0] (fun i b wr => aqRel B w xs l i b wr) (fun i _ _ => l.length - (intOf i).toNat)
    case atStart => exact R0.out
    case round =>
      obtain ⟨wq, rfl⟩ : ∃ wq : World, wq = wr := ⟨_, rfl⟩
      obtain ⟨j, aj, cj, m, rfl, hj, rfl, hm, ownj, hbj⟩ := hrel
      have q0 : (0 : Int) ≤ (j : Int) := by omega
      have HM := Lib.hid hm
      have OWJ := Lib.hid ownj
      have HBJ := Lib.hid hbj
      have HBwj := Lib.hid (Nat.le_trans HBw.out hbj.size)
      have hq4 := qcs_len (l.take j)
      have hml : m ≤ n + 1 + 4 * j := by
        have h1 := HN.out
        simp only [List.length_append, List.length_cons, List.length_nil, List.length_take] at hm hq4
        omega
      have HML := Lib.hid hml
      clear hm ownj hbj R0 hq4 hml
      by_cases hjl : j < l.length
      · have q1 : (j : Int) < (l.length : Int) := by omega
        have q2 : (j : Int) < (S.size : Int) := by omega
        obtain ⟨c, hc⟩ : ∃ c, l[j]? = some c := ⟨_, List.getElem?_eq_getElem hjl⟩
        have hsj := HAT.out j c hc
        obtain ⟨X, hX⟩ : ∃ X, X = xs ++ [34] ++ qcs (l.take j) := ⟨_, rfl⟩
        have AX := AC.out aj cj X c wq (by rw [hX, ← HM.out]; exact OWJ.out) HBwj.out (by rw [hX, ← HM.out]; have := HML.out; have := HLIM.out; omega)
        rw [hX, ← HM.out] at AX
        rw [show xs ++ [34] ++ qcs (l.take j) ++ qc c = xs ++ [34] ++ qcs (l.take (j + 1)) by rw [qcs_take hc, ← List.append_assoc]] at AX
        obtain ⟨k, hk⟩ : ∃ k : Nat, k = c.toNat := ⟨_, rfl⟩
        have hkc : ∀ h : j < S.size, (S[j]'h).toNat = k := fun h => by rw [hsj h]; exact hk.symm
        rw [← hk] at AX
        have HAX := Lib.hid AX
        clear AX hX hsj hk hc
        go_wp2_with fail
        refine HAX.out.mono ?_
        rintro e w3 ⟨a3, c3, rfl, own3, hb3⟩
        have RL := Lib.hid (show aqRel B w xs l (.int .i64 ((j + 1 : Nat) : Int)) (.slice a3 (xs ++ [34] ++ qcs (l.take (j + 1))).length c3) w3 from ⟨j + 1, a3, c3, _, rfl, hjl, rfl, rfl, own3, HBJ.out.trans hb3⟩)
        clear own3 hb3
        generalize (xs ++ [34] ++ qcs (l.take (j + 1))).length = m3 at RL ⊢
        go_wp2_with fail
        exact ⟨RL.out, by simp [intOf]; omega⟩
      · have q1 : ¬ (j : Int) < (l.length : Int) := by omega
        have hj2 : l.take j = l := List.take_of_length_le (by omega)
        have OWE := Lib.hid (show wq.ownsRow B 5 1 (.slice aj m cj) m (bvs (xs ++ [34] ++ qcs l)) by rw [← hj2]; exact OWJ.out)
        have HME := Lib.hid (show m = (xs ++ [34] ++ qcs l).length by have := HM.out; rw [hj2] at this; exact this)
        obtain ⟨E, hE⟩ : ∃ E, E = xs ++ [34] ++ qcs l := ⟨_, rfl⟩
        rw [← hE] at OWE HME
        have HE := Lib.hid hE
        clear hE
        go_wp2_with (at_builtin; refine wpList_apb rfl (.tmp 20) (.tmp 21) rfl B _ _ E m HME.out rfl OWE.out HBwj.out _ [34] 1 rfl rfl rfl (by have := HLIM.out; have := HML.out; omega) ?next2)
        case next2 =>
          rintro a4 c4 w4 own4 hb4
          have RE := Lib.hid (show ApPost B w (xs ++ qt l) (.returned (.slice a4 (m + 1) c4)) w4 from by
            have h := ApPost.mk' (w := w) HME.out rfl own4 (HBJ.out.trans hb4)
            rw [HE.out, show xs ++ [34] ++ qcs l ++ [34] = xs ++ qt l by simp [qt]] at h
            exact h)
          clear own4 hb4
          go_wp2_with fail
          go_ret
          exact RE.out
set_option maxHeartbeats 4000000 in
theorem vquote_any (l : List UInt8) (w : World) (hlim : 4 * l.length + 8 ≤ 140737488355328) :
    Calls Tryz.prog 88 #[.string (str l)] w fun e w' => e = .returned (.string (str (qt l))) ∧ Below w.heap.size w w' := by
  have AQ := apquote_any w.heap.size none 0 [] l w (World.ownsRow_nil _ _ _ _) (Nat.le_refl _) (by simpa using hlim)
  rw [List.length_nil, List.nil_append] at AQ
  obtain ⟨S, hS⟩ : ∃ S, S = str l := ⟨_, rfl⟩
  rw [← hS] at AQ ⊢
  have HAQ := Lib.hid AQ
  obtain ⟨Q, hQ⟩ : ∃ Q, Q = qt l := ⟨_, rfl⟩
  rw [← hQ] at HAQ ⊢
  clear AQ hS hQ
  go_enter Tryz.func88, Tryz.ntmps88
  go_wp2_with fail
  refine HAQ.out.mono ?_
  rintro e w3 ⟨a3, c3, rfl, own3, hb3⟩
  have cv := own_conv own3 rfl
  have RL := Lib.hid hb3
  clear own3 hb3
  go_wp2_with fail
  go_ret
  exact ⟨rfl, RL.out⟩
end Go.Proofs.YtnfobnnbeefeeaaGreatDoor.Wi
/- The program's Print. -/
namespace Go.Proofs.YtnfobnnbeefeeaaGreatDoor.Wi
open Go Go.RowKit
set_option linter.unusedVariables false
set_option linter.unusedSimpArgs false
mutual
/-- A value's text. -/
def VT.pv : VT → List UInt8
  | .mk k n s ao c l => if k = 1 then Lib.itoa n else if k = 2 then qt s else if k = 3 then [91] ++ pvL false l ++ [93] else [110, 105, 108]
def pvL (b : Bool) : List VT → List UInt8
  | [] => []
  | x :: l => (if b = true then [32] else []) ++ x.pv ++ pvL true l
end
mutual
/-- Room that is surely enough for it. -/
def VT.pz : VT → Nat
  | .mk k n s ao c l => 30 + (if k = 2 then 4 * s.length else 0) + (if k = 3 then pzL l else 0)
def pzL : List VT → Nat
  | [] => 0
  | x :: l => 1 + x.pz + pzL l
end
theorem pvL_true : ∀ (l : List VT), l ≠ [] → pvL true l = [32] ++ pvL false l
  | [], h => absurd rfl h
  | x :: l, _ => by rw [pvL, pvL]; simp
theorem pvL_app : ∀ (l m : List VT) (b : Bool), pvL b (l ++ m) = pvL b l ++ pvL (b || !l.isEmpty) m
  | [], m, b => by rw [pvL]; simp
  | x :: l, m, b => by
    rw [List.cons_append, pvL, pvL, pvL_app l m true]
    simp
theorem pvL_take {l : List VT} {j : Nat} {x : VT} (h : l[j]? = some x) : pvL false (l.take (j + 1)) = pvL false (l.take j) ++ (if 0 < j then [32] else []) ++ x.pv := by
  have e : l.take (j + 1) = l.take j ++ [x] := by rw [List.take_add_one, h]; rfl
  rw [e, pvL_app]
  have hj : j < l.length := (List.getElem?_eq_some_iff.1 h).1
  by_cases h0 : 0 < j
  · have : (l.take j).isEmpty = false := by
      rw [List.isEmpty_eq_false_iff]
      intro h2
      have h3 : (l.take j).length = 0 := by rw [h2]; rfl
      rw [List.length_take] at h3
      omega
    rw [this, if_pos h0]
    simp [pvL]
  · obtain rfl : j = 0 := by omega
    simp [pvL]
theorem pzL_at : ∀ {l : List VT} {j : Nat} {x : VT}, l[j]? = some x → pzL (l.take j) + 1 + x.pz ≤ pzL l
  | [], j, x, h => by simp at h
  | y :: l, 0, x, h => by
    obtain rfl : y = x := by simpa using h
    rw [List.take_zero, pzL, pzL]; omega
  | y :: l, j + 1, x, h => by
    have ih := pzL_at (l := l) (j := j) (x := x) (by simpa using h)
    rw [List.take_succ_cons, pzL, pzL]; omega
theorem itoa_len (n : Int) (h : -9223372036854775808 ≤ n ∧ n ≤ 9223372036854775807) : (Lib.itoa n).length ≤ 21 := Lib.itoa_length_le n h.1 h.2
theorem pv_len : ∀ (v : VT) (N : Nat) (w : World), v.At N w → v.pv.length + 5 ≤ v.pz := by
  intro v
  induction v using VT.ind with
  | h k n s ao c l ih =>
    intro N w hv
    obtain ⟨hk, hn, hs, hl⟩ := hv.fit
    rw [VT.At] at hv
    have hL : ∀ (q : List VT) (b : Bool), (∀ x ∈ q, x ∈ l) → (pvL b q).length ≤ pzL q := by
      intro q
      induction q with
      | nil => intro b _; rw [pvL, pzL]; simp
      | cons x q ihq =>
        intro b hq
        have h1 := ih x (hq x (by simp)) N w (atL_mem hv.2.2.2.2.2 x (hq x (by simp)))
        have h2 := ihq true (fun y hy => hq y (by simp [hy]))
        rw [pvL, pzL]
        simp only [List.length_append]
        have : (if b = true then [32] else ([] : List UInt8)).length ≤ 1 := by split <;> simp
        omega
    have h1 := itoa_len n hn
    have h2 := hL l false (fun x hx => hx)
    have h3 := qcs_len s
    rw [VT.pv, VT.pz]
    by_cases k1 : k = 1
    · rw [if_pos k1]; omega
    rw [if_neg k1]
    by_cases k2 : k = 2
    · simp only [if_pos k2]; simp only [qt, List.length_append, List.length_cons, List.length_nil]; omega
    simp only [if_neg k2]
    by_cases k3 : k = 3
    · simp only [if_pos k3]; simp only [List.length_append, List.length_cons, List.length_nil]; omega
    · simp only [if_neg k3]; simp
def PrAny (v : VT) : Prop := ∀ (N B : Nat) (ao : Option Addr) (cp : Nat) (xs : List UInt8) (w : World), v.At N w → N ≤ B → B ≤ w.heap.size → w.ownsRow B 5 1 (.slice ao xs.length cp) xs.length (bvs xs) → xs.length + v.pz ≤ 140737488355328 →
  Lib.TabBelow Tryz.prog B w "internal/strconv.uint64pow10" .u64 Lib.pow10Tab → Calls Tryz.prog 123 #[.slice ao xs.length cp, .agg v.cells.toArray] w (ApPost B w (xs ++ v.pv))
def alRel (B : Nat) (w : World) (xs : List UInt8) (l : List VT) (i b : Value) (wr : World) : Prop := ∃ (j : Nat) (ao : Option Addr) (c n : Nat), i = .int .i64 (j : Int) ∧ j ≤ l.length ∧ b = .slice ao n c ∧ n = (xs ++ [91] ++ pvL false (l.take j)).length ∧ wr.ownsRow B 5 1 (.slice ao n c) n (bvs (xs ++ [91] ++ pvL false (l.take j))) ∧ Below B w wr
theorem pvL_len (l : List VT) (N : Nat) (w : World) (h : ∀ x ∈ l, x.At N w) : ∀ b, (pvL b l).length ≤ pzL l := by
  induction l with
  | nil => intro b; rw [pvL, pzL]; simp
  | cons x q ihq =>
    intro b
    have h1 := pv_len x N w (h x (by simp))
    have h2 := ihq (fun y hy => h y (by simp [hy])) true
    rw [pvL, pzL]
    simp only [List.length_append]
    have : (if b = true then [32] else ([] : List UInt8)).length ≤ 1 := by split <;> simp
    omega
set_option maxHeartbeats 16000000 in
set_option maxRecDepth 100000 in
theorem aplist_any (k n : Int) (s : List UInt8) (ao : Option Addr) (c : Nat) (l : List VT) (ih : ∀ x ∈ l, PrAny x) (N B : Nat) (bo : Option Addr) (cp : Nat) (xs : List UInt8) (w : World) (hv : (VT.mk k n s ao c l).At N w) (hNB : N ≤ B) (hB : B ≤ w.heap.size)
    (own : w.ownsRow B 5 1 (.slice bo xs.length cp) xs.length (bvs xs)) (hlim : xs.length + pzL l + 10 ≤ 140737488355328) (htab : Lib.TabBelow Tryz.prog B w "internal/strconv.uint64pow10" .u64 Lib.pow10Tab) :
    Calls Tryz.prog 146 #[.slice bo xs.length cp, .slice ao l.length c] w (ApPost B w (xs ++ ([91] ++ pvL false l ++ [93]))) := by
  obtain ⟨m0, hm0⟩ : ∃ m0, m0 = xs.length := ⟨_, rfl⟩
  rw [← hm0] at own ⊢
  have ll := hv.fit.2.2.2
  have HN := Lib.hid hm0
  have OWN := Lib.hid own
  have HBw := Lib.hid hB
  have HLIM := Lib.hid (show m0 + pzL l + 10 ≤ 140737488355328 by omega)
  have HV := Lib.hid hv
  have IH := Lib.hid ih
  have HTAB := Lib.hid htab
  have HMEM := Lib.hid (show ∀ x ∈ l, x.At N w by rw [VT.At] at hv; exact atL_mem hv.2.2.2.2.2)
  clear hm0 own hB hlim hv ih htab
  go_enter Tryz.func146, Tryz.ntmps146
  go_wp2_with (at_builtin; refine wpList_apb rfl (.tmp 7) (.tmp 8) rfl B _ _ xs m0 HN.out rfl OWN.out HBw.out _ [91] 1 rfl rfl rfl (by have := HLIM.out; omega) ?next)
  case next =>
    rintro a1 c1 w1 own1 hb1
    have R0 := Lib.hid (show alRel B w xs l (.int .i64 0) (.slice a1 (m0 + 1) c1) w1 from ⟨0, a1, c1, m0 + 1, rfl, Nat.zero_le _, rfl, by simp [pvL]; exact HN.out, by simpa [pvL] using own1, hb1⟩)
    clear own1 hb1
    go_wp2_with fail
    go_loopw [12, 0] (fun i b wr => alRel B w xs l i b wr) (fun i _ _ => l.length - (intOf i).toNat)
    case atStart => exact R0.out
    case round =>
      obtain ⟨wq, rfl⟩ : ∃ wq : World, wq = wr := ⟨_, rfl⟩
      obtain ⟨j, aj, cj, m, rfl, hj, rfl, hm, ownj, hbj⟩ := hrel
      have q0 : (0 : Int) ≤ (j : Int) := by omega
      have hpl := pvL_len (l.take j) N w (fun x hx => HMEM.out x (List.mem_of_mem_take hx)) false
      have HM := Lib.hid hm
      have OWJ := Lib.hid ownj
      have HBJ := Lib.hid hbj
      have HBwj := Lib.hid (Nat.le_trans HBw.out hbj.size)
      have hml : m ≤ m0 + 1 + pzL (l.take j) := by
        have h1 := HN.out
        simp only [List.length_append, List.length_cons, List.length_nil] at hm
        omega
      have HML := Lib.hid hml
      clear hm ownj hbj R0 hpl hml
      by_cases hjl : j < l.length
      · have q1 : (j : Int) < (l.length : Int) := by omega
        obtain ⟨x, hx⟩ : ∃ x, l[j]? = some x := ⟨_, List.getElem?_eq_getElem hjl⟩
        obtain ⟨hxv, ad, rfl, had, hxc⟩ := HV.out.elem hx
        have nb : ∀ k, k < N → wq.heap[k]? = w.heap[k]? := fun k hk => HBJ.out.block k (by omega)
        have KX := Lib.hid (hxc wq nb)
        obtain ⟨w5, hw5⟩ : ∃ bx, bx = wq.alloc (.cells x.cells.toArray 26) := ⟨_, rfl⟩
        obtain ⟨g5, hg5⟩ : ∃ bx, bx = wq.heap.size := ⟨_, rfl⟩
        have bw5 : Below wq.heap.size wq w5 := by rw [hw5]; exact (Below.refl _ _).alloc (Nat.le_refl _) _
        have nw5 : w5.heap[g5]? = some (.cells x.cells.toArray 26 (0, 0)) := by rw [hw5, hg5]; exact heap_alloc_new _ _
        have Kw5 := Lib.hid (rowK nw5)
        have Hw5 := Lib.hid hw5
        have Hg5 := Lib.hid hg5
        have Bw5 := Lib.hid bw5
        have Nw5 := Lib.hid nw5
        clear hw5 hg5 bw5 nw5
        have HX5 := Lib.hid (show x.At N w5 from (hxv.keep nb).below (Bw5.out.mono (Nat.le_trans hNB HBwj.out)))
        have HXL := Lib.hid (pzL_at hx)
        have HXT := Lib.hid (pvL_take hx)
        have HXM := Lib.hid (List.mem_of_getElem? hx)
        have OW5 := Lib.hid (own_belowK OWJ.out Bw5.out)
        have HB5 := Lib.hid (show Below B w w5 from HBJ.out.trans (Bw5.out.mono HBwj.out))
        have HBw5 := Lib.hid (Nat.le_trans HBw.out HB5.out.size)
        obtain ⟨E, hE⟩ : ∃ E, E = xs ++ [91] ++ pvL false (l.take j) := ⟨_, rfl⟩
        rw [← hE] at OW5 HM
        have HE := Lib.hid hE
        clear hxv hxc had hx nb hE
        by_cases j0 : 0 < j
        · have j0' : (0 : Int) < (j : Int) := by omega
          go_wp2_with (first
            | (with_reducible show wpList _ _ _ _ _ _; refine wpList_load_allW rfl 26 (.tmp 15) rfl _ rfl x.cells _ KX.out Tryz.underlying26 rfl (Tryz.valSize x) ?_)
            | (with_reducible show wpList _ _ _ _ _ _; refine wpList_store_newW rfl 26 (.tmp 6) (.tmp 16) rfl 26 _ x.cells.toArray rfl rfl (Tryz.valSize' x) (by with_unfolding_all exact VT.four x) x.cells_one ?_; rw [← Hw5.out, ← Hg5.out])
            | (at_builtin; refine wpList_apbK rfl (.tmp 19) (.tmp 20) rfl B _ _ E m HM.out rfl OW5.out HBw5.out _ [32] 1 rfl rfl rfl (by have := HLIM.out; have := HML.out; have := HXL.out; omega) ?next3))
          case next3 =>
            rintro a6 c6 w6 own6 hb6 blk6
            have K6 := Lib.hid (rowK ((blk6 g5 (lt_of_rowK Nw5.out) (own_neK OW5.out Nw5.out (by decide))).trans Nw5.out))
            have PA := IH.out x HXM.out N B a6 c6 (E ++ [32]) w6 (HX5.out.below (hb6.mono hNB)) hNB (Nat.le_trans HBw5.out hb6.size) (by rw [List.length_append, ← HM.out]; exact own6) (by rw [List.length_append, ← HM.out]; have := HLIM.out; have := HML.out; have := HXL.out; simp only [List.length_cons, List.length_nil]; omega) (HTAB.out.on (HB5.out.trans hb6))
            have et : E ++ [32] ++ x.pv = xs ++ [91] ++ pvL false (l.take (j + 1)) := by rw [HXT.out, HE.out, if_pos j0]; simp
            have el : (E ++ ([32] : List UInt8)).length = m + 1 := by
              have h := HM.out
              simp only [List.length_append, List.length_cons, List.length_nil]
              omega
            rw [et, el] at PA
            have HPA := Lib.hid PA
            have HB6 := Lib.hid (HB5.out.trans hb6)
            clear own6 hb6 blk6 PA et el
            go_wp2_with (with_reducible show wpList _ _ _ _ _ _; refine wpList_load_allW rfl 26 (.tmp 6) rfl ⟨g5,0,none⟩ rfl x.cells _ K6.out Tryz.underlying26 rfl (Tryz.valSize x) ?_)
            refine HPA.out.mono ?_
            rintro e w7 ⟨a7, c7, rfl, own7, hb7⟩
            have RL := Lib.hid (show alRel B w xs l (.int .i64 ((j + 1 : Nat) : Int)) (.slice a7 (xs ++ [91] ++ pvL false (l.take (j + 1))).length c7) w7 from ⟨j + 1, a7, c7, _, rfl, hjl, rfl, rfl, own7, HB6.out.trans hb7⟩)
            clear own7 hb7
            generalize (xs ++ [91] ++ pvL false (l.take (j + 1))).length = m7 at RL ⊢
            go_wp2_with fail
            exact ⟨RL.out, by simp [intOf]; omega⟩
        · have j0' : ¬ (0 : Int) < (j : Int) := by omega
          have PA := IH.out x HXM.out N B aj cj E w5 HX5.out hNB HBw5.out (by rw [← HM.out]; exact OW5.out) (by rw [← HM.out]; have := HLIM.out; have := HML.out; have := HXL.out; omega) (HTAB.out.on HB5.out)
          have et : E ++ x.pv = xs ++ [91] ++ pvL false (l.take (j + 1)) := by rw [HXT.out, HE.out, if_neg j0]; simp
          rw [et, ← HM.out] at PA
          have HPA := Lib.hid PA
          clear PA et
          go_wp2_with (first
            | (with_reducible show wpList _ _ _ _ _ _; refine wpList_load_allW rfl 26 (.tmp 15) rfl _ rfl x.cells _ KX.out Tryz.underlying26 rfl (Tryz.valSize x) ?_)
            | (with_reducible show wpList _ _ _ _ _ _; refine wpList_store_newW rfl 26 (.tmp 6) (.tmp 16) rfl 26 _ x.cells.toArray rfl rfl (Tryz.valSize' x) (by with_unfolding_all exact VT.four x) x.cells_one ?_; rw [← Hw5.out, ← Hg5.out])
            | (with_reducible show wpList _ _ _ _ _ _; refine wpList_load_allW rfl 26 (.tmp 6) rfl ⟨g5,0,none⟩ rfl x.cells _ Kw5.out Tryz.underlying26 rfl (Tryz.valSize x) ?_))
          refine HPA.out.mono ?_
          rintro e w7 ⟨a7, c7, rfl, own7, hb7⟩
          have RL := Lib.hid (show alRel B w xs l (.int .i64 ((j + 1 : Nat) : Int)) (.slice a7 (xs ++ [91] ++ pvL false (l.take (j + 1))).length c7) w7 from ⟨j + 1, a7, c7, _, rfl, hjl, rfl, rfl, own7, HB5.out.trans hb7⟩)
          clear own7 hb7
          generalize (xs ++ [91] ++ pvL false (l.take (j + 1))).length = m7 at RL ⊢
          go_wp2_with fail
          exact ⟨RL.out, by simp [intOf]; omega⟩
      · have q1 : ¬ (j : Int) < (l.length : Int) := by omega
        have hj2 : l.take j = l := List.take_of_length_le (by omega)
        have OWE := Lib.hid (show wq.ownsRow B 5 1 (.slice aj m cj) m (bvs (xs ++ [91] ++ pvL false l)) by rw [← hj2]; exact OWJ.out)
        have HME := Lib.hid (show m = (xs ++ [91] ++ pvL false l).length by have := HM.out; rw [hj2] at this; exact this)
        have HMZ := Lib.hid (show m ≤ m0 + 1 + pzL l by have := HML.out; rw [hj2] at this; exact this)
        obtain ⟨E, hE⟩ : ∃ E, E = xs ++ [91] ++ pvL false l := ⟨_, rfl⟩
        rw [← hE] at OWE HME
        have HE := Lib.hid hE
        clear hE
        go_wp2_with (at_builtin; refine wpList_apb rfl (.tmp 26) (.tmp 27) rfl B _ _ E m HME.out rfl OWE.out HBwj.out _ [93] 1 rfl rfl rfl (by have := HLIM.out; have := HMZ.out; omega) ?next2)
        case next2 =>
          rintro a4 c4 w4 own4 hb4
          have RE := Lib.hid (show ApPost B w (xs ++ ([91] ++ pvL false l ++ [93])) (.returned (.slice a4 (m + 1) c4)) w4 from by
            have h := ApPost.mk' (w := w) HME.out rfl own4 (HBJ.out.trans hb4)
            rw [HE.out, show xs ++ [91] ++ pvL false l ++ [93] = xs ++ ([91] ++ pvL false l ++ [93]) by simp] at h
            exact h)
          clear own4 hb4
          go_wp2_with fail
          go_ret
          exact RE.out
end Go.Proofs.YtnfobnnbeefeeaaGreatDoor.Wi
/- The program's appendPrint, Print. -/
namespace Go.Proofs.YtnfobnnbeefeeaaGreatDoor.Wi
open Go Go.RowKit
set_option linter.unusedVariables false
set_option linter.unusedSimpArgs false
theorem bvs_cells (l : List UInt8) : Lib.byteCells l = bvs l := rfl
set_option maxHeartbeats 8000000 in
set_option maxRecDepth 100000 in
theorem apprint_any : ∀ v : VT, PrAny v := by
  intro v
  induction v using VT.ind with
  | h k n s ao c l ih =>
    intro N B bo cp xs w hv hNB hB own hlim htab
    obtain ⟨hk, hn, hs, hl⟩ := hv.fit
    obtain ⟨m0, hm0⟩ : ∃ m0, m0 = xs.length := ⟨_, rfl⟩
    obtain ⟨w1, hw1⟩ : ∃ bx, bx = w.alloc (.cells #[.int .i64 k, .int .i64 n, .string (str s), .slice ao l.length c] 26) := ⟨_, rfl⟩
    obtain ⟨g, hg⟩ : ∃ bx, bx = w.heap.size := ⟨_, rfl⟩
    have bw1 : Below w.heap.size w w1 := by rw [hw1]; exact (Below.refl _ _).alloc (Nat.le_refl _) _
    have nw1 : w1.heap[g]? = some (.cells (VT.mk k n s ao c l).cells.toArray 26 (0, 0)) := by rw [hw1, hg]; exact heap_alloc_new _ _
    have c0 : w1.cell? ⟨g, 0, none⟩ = some (.int .i64 k) := by have h := rowK nw1 0 _ rfl; rwa [Addr.add_mid] at h
    have c1 : w1.cell? ⟨g, 1, none⟩ = some (.int .i64 n) := by have h := rowK nw1 1 _ rfl; rwa [Addr.add_mid] at h
    have c2 : w1.cell? ⟨g, 2, none⟩ = some (.string (str s)) := by have h := rowK nw1 2 _ rfl; rwa [Addr.add_mid] at h
    have c3 : w1.cell? ⟨g, 3, none⟩ = some (.slice ao l.length c) := by have h := rowK nw1 3 _ rfl; rwa [Addr.add_mid] at h
    have hz0 : xs.length + 30 ≤ 140737488355328 := by rw [VT.pz] at hlim; omega
    have hz2 : k = 2 → xs.length + 30 + 4 * s.length ≤ 140737488355328 := fun h => by rw [VT.pz, if_pos h] at hlim; omega
    have hz3 : k = 3 → xs.length + 30 + pzL l ≤ 140737488355328 := fun h => by rw [VT.pz, if_pos h] at hlim; omega
    have own1 := own_belowK own bw1
    have hB1 := Nat.le_trans hB bw1.size
    have htab1 := htab.on (bw1.mono hB)
    have hv1 := hv.below (bw1.mono (Nat.le_trans hNB hB))
    have AI := Tryz.strconv_AppendInt_10 B xs.length n hn.1 hn.2 (.slice bo xs.length cp) (bvs xs) w1 own1 hB1 (by omega) htab1
    have AQ := fun (h : k = 2) => apquote_any B bo cp xs s w1 own1 hB1 (by have := hz2 h; omega)
    have AL := fun (h : k = 3) => aplist_any k n s ao c l ih N B bo cp xs w1 hv1 hNB hB1 own1 (by have := hz3 h; omega) htab1
    show Calls Tryz.prog 123 #[.slice bo xs.length cp, .agg #[.int .i64 k, .int .i64 n, .string (str s), .slice ao l.length c]] w _
    obtain ⟨P, hP⟩ : ∃ P, P = (VT.mk k n s ao c l).pv := ⟨_, rfl⟩
    rw [← hP]
    rw [VT.pv] at hP
    rw [← hm0] at AI AQ AL own1 ⊢
    obtain ⟨S, hS⟩ : ∃ S, S = str s := ⟨_, rfl⟩
    rw [← hS] at AQ c2 hw1 ⊢
    have HP := Lib.hid hP
    have HM := Lib.hid hm0
    have HAI := Lib.hid AI
    have HAQ := Lib.hid AQ
    have HAL := Lib.hid AL
    have HW1 := Lib.hid hw1
    have HG := Lib.hid hg
    have BW1 := Lib.hid (bw1.mono hB)
    have OW1 := Lib.hid own1
    have HB1 := Lib.hid hB1
    have HLIM := Lib.hid (show m0 + 30 ≤ 140737488355328 by omega)
    clear hw1 hg bw1 nw1 hP AI AQ AL hS hv hv1 own own1 hB hB1 htab htab1 hlim hz0 hz2 hz3 hm0 ih
    go_enter Tryz.func123, Tryz.ntmps123
    go_upto_region 1 with fail
    rw [← HW1.out, ← HG.out]
    by_cases h1 : k = 1
    · subst h1
      have hp := HP.out.trans (if_pos rfl)
      go_wp2_with fail
      refine HAI.out.mono ?_
      rintro e w2 ⟨v2, rfl, own2, hb2, _⟩
      rw [bvs_cells, ← bvs_append] at own2
      obtain ⟨a2, c2', rfl⟩ := own_slK own2
      have RL := Lib.hid (show ApPost B w (xs ++ P) (.returned (.slice a2 (m0 + (Lib.itoa n).length) c2')) w2 from by rw [hp]; exact ApPost.mk' HM.out rfl own2 (BW1.out.trans hb2))
      generalize m0 + (Lib.itoa n).length = m2 at RL ⊢
      clear own2 hb2 hp
      go_wp2_with fail
      go_ret
      exact RL.out
    by_cases h2 : k = 2
    · subst h2
      have hp := HP.out.trans ((if_neg (by decide)).trans (if_pos rfl))
      go_wp2_with fail
      refine (HAQ.out (by trivial)).mono ?_
      rintro e w2 ⟨a2, c2', rfl, own2, hb2⟩
      have RL := Lib.hid (show ApPost B w (xs ++ P) (.returned (.slice a2 (xs ++ qt s).length c2')) w2 from by rw [hp]; exact ⟨a2, c2', rfl, own2, BW1.out.trans hb2⟩)
      generalize (xs ++ qt s).length = m2 at RL ⊢
      clear own2 hb2 hp
      go_wp2_with fail
      go_ret
      exact RL.out
    by_cases h3 : k = 3
    · subst h3
      have hp := HP.out.trans ((if_neg (by decide)).trans ((if_neg (by decide)).trans (if_pos rfl)))
      go_wp2_with fail
      refine (HAL.out (by trivial)).mono ?_
      rintro e w2 ⟨a2, c2', rfl, own2, hb2⟩
      have RL := Lib.hid (show ApPost B w (xs ++ P) (.returned (.slice a2 (xs ++ ([91] ++ pvL false l ++ [93])).length c2')) w2 from by rw [hp]; exact ⟨a2, c2', rfl, own2, BW1.out.trans hb2⟩)
      generalize (xs ++ ([91] ++ pvL false l ++ [93])).length = m2 at RL ⊢
      clear own2 hb2 hp
      go_wp2_with fail
      go_ret
      exact RL.out
    have hp := HP.out.trans ((if_neg h1).trans ((if_neg h2).trans (if_neg h3)))
    have HPP := Lib.hid hp
    clear hp
    have e1 : (k == 1) = false := by simpa using h1
    have e2 : (k == 2) = false := by simpa using h2
    have e3 : (k == 3) = false := by simpa using h3
    obtain ⟨i0, hi, hz0, hz1, hz2⟩ := info_parts Tryz.info5
    have HI := Lib.hid (show Tryz.prog.info? 5 = some i0 ∧ i0.zero = some (.int .u8 0) ∧ i0.size = 1 ∧ i0.bytes = 1 from ⟨hi, hz0, hz1, hz2⟩)
    have SR := Lib.hid (fun W => Src.ofString (P := Tryz.prog) W (tx := 9) Tryz.underlying9 ⟨#[110, 105, 108]⟩)
    clear hi hz0 hz1 hz2 h1 h2 h3
    go_wp2_with (at_builtin; refine wpList_append_own_src _ rfl (.tmp 25) (.const (.string ⟨#[110, 105, 108]⟩)) 36 9 rfl B 5 i0 (.int .u8 0) 1 1 Tryz.underlying36 HI.out.1 HI.out.2.1 HI.out.2.2.1 HI.out.2.2.2 rfl _ m0 (bvs xs) rfl OW1.out _ 3 (bvs [110, 105, 108]) rfl (SR.out _) ?b1 ?b2 HB1.out ?next)
    case b1 => have := HLIM.out; unfold maxLen; omega
    case b2 => have := HLIM.out; omega
    case next =>
      intro v2 w2 hg2
      obtain ⟨a2, c2', rfl, own2, hb2, _⟩ := grew_zeroK OW1.out HB1.out (Nat.le_refl _) hg2
      rw [← bvs_append] at own2
      have RL := Lib.hid (show ApPost B w (xs ++ P) (.returned (.slice a2 (m0 + 3) c2')) w2 from by rw [HPP.out]; exact ApPost.mk' HM.out rfl own2 (BW1.out.trans hb2))
      clear own2 hb2 hg2
      go_wp2_with fail
      go_ret
      exact RL.out
set_option maxHeartbeats 4000000 in
theorem vprint_any (v : VT) (hd : v.dpr 65536 = false) (N : Nat) (w : World) (hv : v.At N w) (hN : N ≤ w.heap.size) (hlim : v.pz ≤ 140737488355328) (htab : Lib.TabBelow Tryz.prog w.heap.size w "internal/strconv.uint64pow10" .u64 Lib.pow10Tab) :
    Calls Tryz.prog 89 #[.agg v.cells.toArray] w fun e w' => e = .returned (.string (str v.pv)) ∧ Below w.heap.size w w' := by
  obtain ⟨w1, hw1⟩ : ∃ bx, bx = w.alloc (.cells v.cells.toArray 26) := ⟨_, rfl⟩
  obtain ⟨g, hg⟩ : ∃ bx, bx = w.heap.size := ⟨_, rfl⟩
  have bw1 : Below w.heap.size w w1 := by rw [hw1]; exact (Below.refl _ _).alloc (Nat.le_refl _) _
  have nw1 : w1.heap[g]? = some (.cells v.cells.toArray 26 (0, 0)) := by rw [hw1, hg]; exact heap_alloc_new _ _
  have Kw1 := Lib.hid (rowK nw1)
  have Hw1 := Lib.hid hw1
  have Hg := Lib.hid hg
  have Bw1 := Lib.hid bw1
  have Nw1 := Lib.hid nw1
  clear hw1 hg bw1 nw1
  have EN := Lib.hid (endless_any v N w1 (hv.below (Bw1.out.mono hN)) (Nat.le_trans hN Bw1.out.size))
  rw [hd] at EN
  have AP := Lib.hid (fun (W : World) (hb : Below w.heap.size w W) => apprint_any v N w.heap.size none 0 [] W (hv.below (hb.mono hN)) hN hb.size (World.ownsRow_nil _ _ _ _) (by simpa using hlim) (htab.on hb))
  rw [List.nil_append, List.length_nil] at AP
  obtain ⟨Q, hQ⟩ : ∃ Q, Q = v.pv := ⟨_, rfl⟩
  rw [← hQ] at AP ⊢
  clear hQ hv hlim htab hd
  go_enter Tryz.func89, Tryz.ntmps89
  go_upto_region 1 with fail
  rw [← Hw1.out, ← Hg.out]
  go_wp2_with (with_reducible show wpList _ _ _ _ _ _; refine wpList_load_allW rfl 26 (.tmp 1) rfl ⟨g,0,none⟩ rfl v.cells _ Kw1.out Tryz.underlying26 rfl (Tryz.valSize v) ?_)
  refine EN.out.mono ?_
  rintro e w2 ⟨rfl, hb2⟩
  have HB2 := Lib.hid (Bw1.out.trans (hb2.mono Bw1.out.size))
  have K2 := Lib.hid (rowK ((hb2.block g (lt_of_rowK Nw1.out)).trans Nw1.out))
  have HAP := Lib.hid (AP.out w2 HB2.out)
  clear hb2 AP
  go_wp2_with (with_reducible show wpList _ _ _ _ _ _; refine wpList_load_allW rfl 26 (.tmp 1) rfl ⟨g,0,none⟩ rfl v.cells _ K2.out Tryz.underlying26 rfl (Tryz.valSize v) ?_)
  refine HAP.out.mono ?_
  rintro e w3 ⟨a3, c3, rfl, own3, hb3⟩
  have cv := own_conv own3 rfl
  have RL := Lib.hid (HB2.out.trans hb3)
  clear own3 hb3
  go_wp2_with fail
  go_ret
  exact ⟨rfl, RL.out⟩
end Go.Proofs.YtnfobnnbeefeeaaGreatDoor.Wi
