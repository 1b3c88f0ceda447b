/- One structure is written behind an owned row of structures: where the row lies then. Of no program. -/
import Derived.Test.YtkmhbbcppjckiaaK0C
import Derived.Test.YtkmhbbcppjckiaaK0I
import Derived.Test.YtkmhbbcppjckiaaK0H
import Derived.Shelf.Abstract
namespace Go.Proofs.Ytkmhbbcppjckiaa
open Go Go.RowKit
set_option linter.unusedVariables false
set_option linter.unusedSimpArgs false
theorem wpList_apK2 {P : Program} {ops : Array Oper} {rest : List Oper} {o : Oper} {a : Act} {Q : Exit → Act → World → Prop} {w : World} (hgd : o.guard = none) (s x : Operand) (tS e : TypeId) (size bytes : Nat) (zv : Value)
    (ho : o.op = .call { callee := .builtin .append, args := #[s, x], argTypes := #[tS, tS] }) (hu : P.underlying tS = some (.slice e)) (hinfo : (P.info? e).map (fun i => (i.zero, i.size, i.bytes)) = some (some zv, size, bytes)) (hb : bytes ≤ 128)
    (hzv : zv.cells.size = size)
    (B : Nat) (ao : Option Addr) (c : Nat) (xs : List Value) (n : Nat) (hsv : a.eval s = .slice ao n c) (own : w.ownsRow B e size (.slice ao n c) n xs) (hB : B ≤ w.heap.size)
    (cs : List Value) (hcl : cs.length = size) (h1 : ∀ u ∈ cs, u.oneCell' = true) (hx : a.eval x = .slice (some ⟨w.heap.size, 0, none⟩) 1 1) (hlim : n + 1 ≤ 1000000)
    (h : ∀ ao' c' w', w'.ownsRow B e size (.slice ao' (n + 1) c') (n + 1) (xs ++ cs) → Below B w w' → (∀ k, k < w.heap.size → some k ≠ (Value.slice ao n c).ownBlock → w'.heap[k]? = w.heap[k]?) → ((Value.slice ao' (n + 1) c').ownBlock = (Value.slice ao n c).ownBlock ∨ (Value.slice ao' (n + 1) c').ownBlock = some (w.heap.size + 1)) → wpList P ops Q rest (a.put o.dst (.slice ao' (n + 1) c')) w') :
    wpList P ops Q (o :: rest) a (w.alloc (.cells cs.toArray e)) := by
  obtain ⟨i0, hi, hz0, hz1, hz2⟩ := info_partsK hinfo
  refine wpList_append_own_src _ hgd s x tS tS ho B e i0 zv size bytes hu hi hz0 hz1 hz2 hzv _ n xs hsv (own.alloc _) _ 1 cs hx ?_ (by unfold maxLen; omega) ?_ (by simp; omega) ?_
  · exact src_oneK hu w cs hcl h1
  · have : (n + 1) * bytes ≤ (n + 1) * 128 := Nat.mul_le_mul_left _ hb
    omega
  · intro v' w' hg
    have gr := hg.2.2
    obtain ⟨a2, c2, rfl, own4, hb4, blk4⟩ := grew_oneK own hB (Nat.le_refl _) hg
    exact h a2 c2 w' own4 hb4 blk4 (by simpa using gr)
end Go.Proofs.Ytkmhbbcppjckiaa
/- Those leases of which something holds are had no more. -/
namespace Go.Proofs.Ytkmhbbcppjckiaa.Ma
open Go Go.RowKit Go.Proofs.Ytkmhbbcppjckiaa
open Go.Proofs.Ytkmhbbcppjckiaa.Hp (i64wf K3 wf3)
open Go.Proofs.Ytkmhbbcppjckiaa.Qu (kcs tkSize own_baseQ)
open Go.Proofs.Ytkmhbbcppjckiaa.Dk (Frm below_drewN)
set_option linter.unusedVariables false
set_option linter.unusedSimpArgs false
set_option maxRecDepth 100000
/-- Leases, one behind the other. -/
def lss (l : List Ls) : List Value := (l.map Ls.cs).flatten
theorem lss_app (A B : List Ls) : lss (A ++ B) = lss A ++ lss B := by simp [lss]
theorem lss_len : ∀ l : List Ls, (lss l).length = l.length * 6
  | [] => rfl
  | k :: l => by
    have h := lss_len l
    simp only [lss, List.map_cons, List.flatten_cons, List.length_append, List.length_cons] at h ⊢
    have : k.cs.length = 6 := rfl
    omega
theorem lss_at : ∀ (l : List Ls) (i : Nat) (k : Ls), l[i]? = some k → ∀ (j : Nat) v, k.cs[j]? = some v → (lss l)[i * 6 + j]? = some v
  | [], i, k, h => by simp at h
  | y :: l, 0, k, h => fun j v hj => by
    cases h
    have := (List.getElem?_eq_some_iff.1 hj).1
    simp only [lss, List.map_cons, List.flatten_cons, Nat.zero_mul, Nat.zero_add]
    rw [List.getElem?_append_left this]
    exact hj
  | y :: l, i + 1, k, h => fun j v hj => by
    have ih := lss_at l i k (by simpa using h) j v hj
    simp only [lss, List.map_cons, List.flatten_cons] at ih ⊢
    have e : y.cs.length = 6 := rfl
    rw [List.getElem?_append_right (by omega), e, show (i + 1) * 6 + j - 6 = i * 6 + j by omega]
    exact ih
/-- Leases in a row of their own. -/
def LRow (w : World) (B : Nat) (ao : Option Addr) (c : Nat) (L : List Ls) : Prop := w.ownsRow B 80 6 (.slice ao L.length c) L.length (lss L)
/-- Two rows of leases that lie apart. -/
structure LTwo (w : World) (B : Nat) (a1 : Option Addr) (c1 : Nat) (L1 : List Ls) (a2 : Option Addr) (c2 : Nat) (L2 : List Ls) : Prop where
  one : LRow w B a1 c1 L1
  two : LRow w B a2 c2 L2
  ne : ∀ q, (Value.slice a1 L1.length c1).ownBlock = some q → (Value.slice a2 L2.length c2).ownBlock ≠ some q
def enRel (w : World) (L : List Ls) (p : Ls → Bool) (ev rv iv : Value) (wr : World) : Prop := ∃ (i : Nat) (a1 : Option Addr) (c1 : Nat) (a2 : Option Addr) (c2 : Nat), i ≤ L.length ∧ iv = .int .i64 (i : Int) ∧
  ev = .slice a1 ((L.take i).filter p).length c1 ∧ rv = .slice a2 ((L.take i).filter fun l => !p l).length c2 ∧ LTwo wr w.heap.size a1 c1 ((L.take i).filter p) a2 c2 ((L.take i).filter fun l => !p l) ∧ Below w.heap.size w wr
theorem own_ltK {w : World} {base : Nat} {e : TypeId} {size n : Nat} {v : Value} {xs : List Value} (h : w.ownsRow base e size v n xs) {q : Nat} (hq : v.ownBlock = some q) : q < w.heap.size := (h.lt q hq).2
theorem LTwo.below {w w' : World} {B : Nat} {a1 a2 : Option Addr} {c1 c2 : Nat} {L1 L2 : List Ls} (h : LTwo w B a1 c1 L1 a2 c2 L2) (hb : Below w.heap.size w w') : LTwo w' B a1 c1 L1 a2 c2 L2 := ⟨own_belowK h.one hb, own_belowK h.two hb, h.ne⟩
theorem LTwo.left {w w' : World} {B : Nat} {a1 a2 a' : Option Addr} {c1 c2 c' : Nat} {L1 L2 : List Ls} (h : LTwo w B a1 c1 L1 a2 c2 L2) (x : Ls) (own' : w'.ownsRow B 80 6 (.slice a' (L1.length + 1) c') (L1.length + 1) (lss L1 ++ x.cs))
    (hk : ∀ k, k < w.heap.size → some k ≠ (Value.slice a1 L1.length c1).ownBlock → w'.heap[k]? = w.heap[k]?) (hbk : (Value.slice a' (L1.length + 1) c').ownBlock = (Value.slice a1 L1.length c1).ownBlock ∨ (Value.slice a' (L1.length + 1) c').ownBlock = some (w.heap.size + 1)) : LTwo w' B a' c' (L1 ++ [x]) a2 c2 L2 := by
  have e : (L1 ++ [x]).length = L1.length + 1 := by simp
  refine ⟨?_, own_keepK h.two fun q hq hlt => hk q hlt fun e => h.ne q e.symm hq, ?_⟩
  · unfold LRow
    rw [e, lss_app]
    simpa [lss] using own'
  · intro q hq hq2
    rw [e] at hq
    have hlt := own_ltK h.two hq2
    rcases hbk with hb | hb
    · exact h.ne q (hb.symm.trans hq) hq2
    · rw [hb] at hq
      injection hq with hq
      omega
theorem LTwo.swap {w : World} {B : Nat} {a1 a2 : Option Addr} {c1 c2 : Nat} {L1 L2 : List Ls} (h : LTwo w B a1 c1 L1 a2 c2 L2) : LTwo w B a2 c2 L2 a1 c1 L1 := ⟨h.two, h.one, fun q h1 h2 => h.ne q h2 h1⟩
theorem fil_yes {L : List Ls} {i : Nat} {x : Ls} {p : Ls → Bool} (hx : L[i]? = some x) (hp : p x = true) : (L.take (i + 1)).filter p = (L.take i).filter p ++ [x] := by
  rw [List.take_add_one, hx]; simp [hp]
theorem fil_no {L : List Ls} {i : Nat} {x : Ls} {p : Ls → Bool} (hx : L[i]? = some x) (hp : p x = false) : (L.take (i + 1)).filter p = (L.take i).filter p := by
  rw [List.take_add_one, hx]; simp [hp]
end Go.Proofs.Ytkmhbbcppjckiaa.Ma
/- Those leases of which something holds are had no more: the walk. -/
namespace Go.Proofs.Ytkmhbbcppjckiaa.Ma
open Go Go.RowKit Go.Proofs.Ytkmhbbcppjckiaa
open Go.Proofs.Ytkmhbbcppjckiaa.Hp (i64wf K3 wf3)
open Go.Proofs.Ytkmhbbcppjckiaa.Qu (kcs tkSize own_baseQ)
open Go.Proofs.Ytkmhbbcppjckiaa.Dk (Frm below_drewN)
set_option linter.unusedVariables false
set_option linter.unusedSimpArgs false
set_option maxRecDepth 100000
theorem lsSizeA (l : Ls) : (Try.prog.info? 80).map (·.size) = some l.cs.toArray.size := by
  show _ = some 6
  kernel_rfl
theorem Ls.oneA (l : Ls) : l.cs.toArray.all (·.oneCell') = true := by simp [Ls.cs, Value.oneCell']
set_option maxHeartbeats 1000000 in
theorem end_any {w : World} {b o : Nat} {MR : Array Value} {ty : TypeId} {ao : Option Addr} {c B0 : Nat} {L : List Ls} {g : Nat} {lb : Array Value} {p : Ls → Bool} (hr : w.heap[b]? = some (.cells MR ty (0, 0))) (hm : MR[o + 196]? = some (.slice ao L.length c)) (hL : LRow w B0 ao c L) (hl : L.length ≤ 1000) (hp : Asks g lb p w) (eg : ∀ args w, (callFunc g args).run Try.prog w = .ok (.enter g args) w) :
    Calls Try.prog 57 #[.pointer (some ⟨b, o, none⟩), .func (.func g) #[] lb] w fun e w' => ∃ a1 c1 a2 c2, e = .returned (.slice a1 (L.filter p).length c1) ∧ LTwo w' w.heap.size a1 c1 (L.filter p) a2 c2 (L.filter fun l => !p l) ∧ w'.heap[b]? = some (.cells (MR.setIfInBounds (o + 196) (.slice a2 (L.filter fun l => !p l).length c2)) ty (0, 0)) ∧ Frm (fun q => q = b) w w' := by
  have hc : w.cell? ⟨b, o + 196, none⟩ = some (.slice ao L.length c) := by rw [cell_of_row w b _ _ _ _ hr]; exact hm
  have HL := Lib.hid hL
  have HR := Lib.hid hr
  have HP := Lib.hid hp
  obtain ⟨n, hn⟩ : ∃ n, n = L.length := ⟨_, rfl⟩
  have HO1 := Lib.hid (show w.ownsRow B0 80 6 (.slice ao n c) n (lss L) by rw [hn]; exact hL)
  rw [← hn] at hc hl
  have HN := Lib.hid hn
  clear hL hr hp hm hn
  go_enter Try.func57, Try.ntmps57
  go_wp2_with fail
  go_loopw [5, 6, 14] (fun ev rv iv wr => enRel w L p ev rv iv wr) (fun _ _ iv _ => n - (intOf iv).toNat)
  case atStart => exact ⟨0, none, 0, none, 0, Nat.zero_le _, rfl, rfl, rfl, ⟨World.ownsRow_nil _ _ _ _, World.ownsRow_nil _ _ _ _, fun q h => by cases h⟩, Below.refl _ _⟩
  case round =>
    obtain ⟨wq, rfl⟩ : ∃ wq : World, wq = wr := ⟨_, rfl⟩
    obtain ⟨i, a1, c1, a2, c2, hi, rfl, rfl, rfl, hown, hb⟩ := hrel
    by_cases hin : i < n
    · have hiL : i < L.length := by rw [← HN.out]; exact hin
      obtain ⟨x, hx⟩ : ∃ x, L[i]? = some x := ⟨_, List.getElem?_eq_getElem hiL⟩
      obtain ⟨gp, hgp, _, hglt, _⟩ := own_cellK HO1.out (lss_at L i x hx 0 _ rfl)
      subst hgp
      have KX : ∀ j v, x.cs[j]? = some v → wq.cell? ((⟨gp, i * 6, none⟩ : Addr).add j) = some v := by
        intro j v hj
        obtain ⟨g2, e2, _, hlt, hc⟩ := own_cellK HO1.out (lss_at L i x hx j v hj)
        injection e2 with e2
        injection e2 with e2
        subst e2
        rw [Addr.add_mid, hb.cell hlt]
        exact hc
      obtain ⟨w5, hw5⟩ : ∃ w5, w5 = wq.alloc (.cells x.cs.toArray 80) := ⟨_, rfl⟩
      obtain ⟨g5, hg5⟩ : ∃ g, g = wq.heap.size := ⟨_, rfl⟩
      have b5 : Below wq.heap.size wq w5 := by rw [hw5]; exact (Below.refl _ _).alloc (Nat.le_refl _) _
      have n5 : w5.heap[g5]? = some (.cells x.cs.toArray 80 (0, 0)) := by rw [hw5, hg5]; exact heap_alloc_new _ _
      have KT : ∀ j v, x.cs[j]? = some v → w5.cell? ((⟨g5, 0, none⟩ : Addr).add j) = some v := by
        intro j v hj
        rw [Addr.add_mid, Nat.zero_add, cell_of_row w5 g5 j _ _ _ n5]
        simpa using hj
      have SW := Lib.hid (lsSizeA x)
      have OW := Lib.hid x.oneA
      have HX := Lib.hid hx
      have H2 := Lib.hid (hown.below b5)
      have HB5 := Lib.hid (hb.trans (b5.mono hb.size))
      have HA := Lib.hid (HP.out w5 HB5.out x)
      have HW5 := Lib.hid hw5
      have HG5 := Lib.hid hg5
      have N5 := Lib.hid n5
      have hin2 : (i : Int) < (n : Int) := by omega
      have h0 : (0 : Int) ≤ (i : Int) := by omega
      clear hown hb hx hw5 hg5 b5 n5 hglt hc
      obtain ⟨E1, hE1⟩ : ∃ E, E = (L.take i).filter p := ⟨_, rfl⟩
      obtain ⟨E2, hE2⟩ : ∃ E, E = (L.take i).filter fun l => !p l := ⟨_, rfl⟩
      rw [← hE1, ← hE2] at H2 ⊢
      have HE1 := Lib.hid hE1
      have HE2 := Lib.hid hE2
      clear hE1 hE2
      go_upto_region 5 with (first
        | (with_reducible show wpList _ _ _ _ _ _; refine wpList_load_allW rfl 80 (.tmp 16) rfl ⟨gp, i * 6, none⟩ rfl x.cs _ KX Try.underlying80 rfl (lsSize _) ?_)
        | (with_reducible show wpList _ _ _ _ _ _; refine wpList_store_newW rfl 80 (.tmp 8) (.tmp 17) rfl 80 _ x.cs.toArray (by with_unfolding_all rfl) (by with_unfolding_all rfl) SW.out rfl OW.out ?_))
      rw [← HW5.out, ← HG5.out]
      simp only [Act.put, List.setIfInBounds_toArray, List.set_cons_zero, List.set_cons_succ, List.getElem_toArray, List.getElem_cons_zero, List.getElem_cons_succ]
      cases hq : p x with
      | true =>
        have HQ := Lib.hid hq
        have HA2 := Lib.hid (show Calls Try.prog g (#[.agg x.cs.toArray] ++ lb) w5 fun e w' => e = .returned (.bool true) ∧ Below w5.heap.size w5 w' by rw [← hq]; exact HA.out)
        clear hq HA
        go_upto_region 6 with (first
          | (with_reducible show wpList _ _ _ _ _ _; refine wpList_load_allW rfl 80 (.tmp 8) rfl ⟨g5, 0, none⟩ rfl x.cs _ KT Try.underlying80 rfl (lsSize _) ?_)
          | (go_at_fn g; refine HA2.out.mono ?_; rintro e w6 ⟨rfl, hb6⟩))
        have K6 : ∀ j v, x.cs[j]? = some v → w6.cell? ((⟨g5, 0, none⟩ : Addr).add j) = some v := by
          intro j v hj
          have h6 := (hb6.block g5 (lt_of_rowK N5.out)).trans N5.out
          rw [Addr.add_mid, Nat.zero_add, cell_of_row w6 g5 j _ _ _ h6]
          simpa using hj
        have T6 := Lib.hid (H2.out.below hb6)
        have HB6 := Lib.hid (HB5.out.trans (hb6.mono HB5.out.size))
        have SM1 := Lib.hid (show E1.length + 1 ≤ 1000000 by
          have h1 := List.length_filter_le p (L.take i)
          rw [← HE1.out] at h1
          have h2 := List.length_take_le i L
          omega)
        clear hb6 KT
        have hw6 : x.cs.length = 6 := rfl
        go_upto_region 8 with (first
          | (with_reducible show wpList _ _ _ _ _ _; refine wpList_load_allW rfl 80 (.tmp 8) rfl ⟨g5, 0, none⟩ rfl x.cs _ K6 Try.underlying80 rfl (lsSize _) ?_)
          | (at_builtin; refine wpList_apK2 rfl (.tmp 21) (.tmp 23) 68 80 6 48 _ rfl Try.underlying68 infoLs (by decide) rfl w.heap.size _ _ _ _ rfl T6.out.one HB6.out.size x.cs rfl x.one rfl SM1.out ?_))
        intro a1' c1' w7 hown' hb' hk' hbk
        have RL := Lib.hid (show enRel w L p (.slice a1' (E1.length + 1) c1') (.slice a2 E2.length c2) (.int .i64 ((i + 1 : Nat) : Int)) w7 from by
          have e1 := fil_yes HX.out HQ.out
          have e2 := fil_no (p := fun l => !p l) HX.out (by simp [HQ.out])
          have l1 := T6.out.left x hown' hk' hbk
          refine ⟨i + 1, a1', c1', a2, c2, by have := HN.out; omega, rfl, ?_, ?_, ?_, HB6.out.trans hb'⟩
          · rw [e1, ← HE1.out]; simp
          · rw [e2, ← HE2.out]
          · rw [e1, e2, ← HE1.out, ← HE2.out]; exact l1)
        have ML := Lib.hid (show n - (i + 1) < n - i by omega)
        clear hown' hb' hk' hbk K6 KX
        go_wp2_with fail
        exact ⟨RL.out, by simp [intOf]; exact ML.out⟩
      | false =>
        have HQ := Lib.hid hq
        have HA2 := Lib.hid (show Calls Try.prog g (#[.agg x.cs.toArray] ++ lb) w5 fun e w' => e = .returned (.bool false) ∧ Below w5.heap.size w5 w' by rw [← hq]; exact HA.out)
        clear hq HA
        go_upto_region 7 with (first
          | (with_reducible show wpList _ _ _ _ _ _; refine wpList_load_allW rfl 80 (.tmp 8) rfl ⟨g5, 0, none⟩ rfl x.cs _ KT Try.underlying80 rfl (lsSize _) ?_)
          | (go_at_fn g; refine HA2.out.mono ?_; rintro e w6 ⟨rfl, hb6⟩))
        have K6 : ∀ j v, x.cs[j]? = some v → w6.cell? ((⟨g5, 0, none⟩ : Addr).add j) = some v := by
          intro j v hj
          have h6 := (hb6.block g5 (lt_of_rowK N5.out)).trans N5.out
          rw [Addr.add_mid, Nat.zero_add, cell_of_row w6 g5 j _ _ _ h6]
          simpa using hj
        have T6 := Lib.hid (H2.out.below hb6)
        have HB6 := Lib.hid (HB5.out.trans (hb6.mono HB5.out.size))
        have SM1 := Lib.hid (show E2.length + 1 ≤ 1000000 by
          have h1 := List.length_filter_le (fun l => !p l) (L.take i)
          rw [← HE2.out] at h1
          have h2 := List.length_take_le i L
          omega)
        clear hb6 KT
        have hw6 : x.cs.length = 6 := rfl
        go_upto_region 8 with (first
          | (with_reducible show wpList _ _ _ _ _ _; refine wpList_load_allW rfl 80 (.tmp 8) rfl ⟨g5, 0, none⟩ rfl x.cs _ K6 Try.underlying80 rfl (lsSize _) ?_)
          | (at_builtin; refine wpList_apK2 rfl (.tmp 25) (.tmp 27) 68 80 6 48 _ rfl Try.underlying68 infoLs (by decide) rfl w.heap.size _ _ _ _ rfl T6.out.two HB6.out.size x.cs rfl x.one rfl SM1.out ?_))
        intro a2' c2' w7 hown' hb' hk' hbk
        have RL := Lib.hid (show enRel w L p (.slice a1 E1.length c1) (.slice a2' (E2.length + 1) c2') (.int .i64 ((i + 1 : Nat) : Int)) w7 from by
          have e1 := fil_no HX.out HQ.out
          have e2 := fil_yes (p := fun l => !p l) HX.out (by simp [HQ.out])
          have l1 := (T6.out.swap.left x hown' hk' hbk).swap
          refine ⟨i + 1, a1, c1, a2', c2', by have := HN.out; omega, rfl, ?_, ?_, ?_, HB6.out.trans hb'⟩
          · rw [e1, ← HE1.out]
          · rw [e2, ← HE2.out]; simp
          · rw [e1, e2, ← HE1.out, ← HE2.out]; exact l1)
        have ML := Lib.hid (show n - (i + 1) < n - i by omega)
        clear hown' hb' hk' hbk K6 KX
        go_wp2_with fail
        exact ⟨RL.out, by simp [intOf]; exact ML.out⟩
    · have hie : i = n := by have := HN.out; omega
      have hnl : ¬ (i : Int) < (n : Int) := by omega
      have ht : L.take i = L := List.take_of_length_le (by rw [hie, HN.out]; exact Nat.le_refl _)
      rw [ht] at hown ⊢
      have hrq : wq.heap[b]? = some (.cells MR ty (0, 0)) := (hb.block b (lt_of_rowK HR.out)).trans HR.out
      have fz : wq.frozen? ⟨b, o + 196, none⟩ = false := frozen_of_row wq b _ _ _ hrq
      have hcq : wq.cell? ⟨b, o + 196, none⟩ = some (.slice ao n c) := by rw [hb.cell (show b < w.heap.size from lt_of_rowK HR.out)]; exact hc
      obtain ⟨E1, hE1⟩ : ∃ E, E = L.filter p := ⟨_, rfl⟩
      obtain ⟨E2, hE2⟩ : ∃ E, E = L.filter fun l => !p l := ⟨_, rfl⟩
      rw [← hE1, ← hE2] at hown ⊢
      have H0 := Lib.hid hown
      have HB := Lib.hid hb
      have HRQ := Lib.hid hrq
      have HE1 := Lib.hid hE1
      have HE2 := Lib.hid hE2
      clear hown hb hrq hE1 hE2 hie ht
      go_wp2_with fail
      go_ret
      have e1 := HE1.out
      have e2 := HE2.out
      subst e1 e2
      have ne1 : (Value.slice a1 (L.filter p).length c1).ownBlock ≠ some b := fun e => by have h1 := (H0.out.one.lt b e).1; have h2 := lt_of_rowK HR.out; omega
      have ne2 : (Value.slice a2 (L.filter fun l => !p l).length c2).ownBlock ≠ some b := fun e => by have h1 := (H0.out.two.lt b e).1; have h2 := lt_of_rowK HR.out; omega
      refine ⟨a1, c1, rfl, a2, c2, ⟨ownsRow_setCell_other H0.out.one ne1 _, ownsRow_setCell_other H0.out.two ne2 _, H0.out.ne⟩, Go.Joins.block_setCell (i := o + 196) HRQ.out _, Frm.setCell (T := fun q => q = b) (Frm.of_below HB.out (Nat.le_refl _)) (p := ⟨b, o + 196, none⟩) (.inl rfl) _⟩
end Go.Proofs.Ytkmhbbcppjckiaa.Ma
/- The first lease of which something holds; whether there is one. -/
namespace Go.Proofs.Ytkmhbbcppjckiaa.Ma
open Go Go.RowKit Go.Proofs.Ytkmhbbcppjckiaa
set_option linter.unusedVariables false
set_option linter.unusedSimpArgs false
set_option maxRecDepth 100000
/-- Where the first one is, or -1. -/
def ixG (p : Ls → Bool) : List Ls → Nat → Int
  | [], _ => -1
  | x :: L, i => if p x = true then (i : Int) else ixG p L (i + 1)
def ixL (p : Ls → Bool) (L : List Ls) : Int := ixG p L 0
theorem ixG_any (p : Ls → Bool) : ∀ (L : List Ls) (i : Nat), decide ((0 : Int) ≤ ixG p L i) = L.any p
  | [], i => by simp [ixG]
  | x :: L, i => by
    have ih := ixG_any p L (i + 1)
    by_cases h : p x = true
    · rw [ixG, if_pos h]; simp [h]
    · rw [ixG, if_neg h, ih]; simp [h]
def ixRel (w : World) (L : List Ls) (p : Ls → Bool) (iv : Value) (wr : World) : Prop := ∃ i : Nat, i ≤ L.length ∧ iv = .int .i64 (i : Int) ∧ ixG p (L.drop i) i = ixL p L ∧ Below w.heap.size w wr
set_option maxHeartbeats 1000000 in
theorem indexL_any {w : World} {B0 : Nat} {ao : Option Addr} {c : Nat} {L : List Ls} (hL : LRow w B0 ao c L) (hl : L.length ≤ 1000) {g : Nat} {lb : Array Value} {p : Ls → Bool} (hp : Asks g lb p w) (eg : ∀ args w, (callFunc g args).run Try.prog w = .ok (.enter g args) w) :
    Calls Try.prog 55 #[.slice ao L.length c, .func (.func g) #[] lb] w fun e w' => e = .returned (.int .i64 (ixL p L)) ∧ Below w.heap.size w w' := by
  have HP := Lib.hid hp
  obtain ⟨n, hn⟩ : ∃ n, n = L.length := ⟨_, rfl⟩
  have HO1 := Lib.hid (show w.ownsRow B0 80 6 (.slice ao n c) n (lss L) by rw [hn]; exact hL)
  obtain ⟨F, hF⟩ : ∃ F, F = ixL p L := ⟨_, rfl⟩
  rw [← hF, ← hn]
  rw [← hn] at hl
  have HN := Lib.hid hn
  have HF := Lib.hid hF
  clear hL hp hn hF
  go_enter Try.func55, Try.ntmps55
  go_wp2_with fail
  go_loopw [8] (fun iv wr => ixRel w L p iv wr) (fun iv _ => n - (intOf iv).toNat)
  case atStart => exact ⟨0, Nat.zero_le _, rfl, rfl, Below.refl _ _⟩
  case round =>
    obtain ⟨wq, rfl⟩ : ∃ wq : World, wq = wr := ⟨_, rfl⟩
    obtain ⟨i, hi, rfl, hfd, hb⟩ := hrel
    by_cases hin : i < n
    · have hiL : i < L.length := by rw [← HN.out]; exact hin
      obtain ⟨x, hx⟩ : ∃ x, L[i]? = some x := ⟨_, List.getElem?_eq_getElem hiL⟩
      obtain ⟨gp, hgp, _, hglt, _⟩ := own_cellK HO1.out (lss_at L i x hx 0 _ rfl)
      subst hgp
      have KX : ∀ j v, x.cs[j]? = some v → wq.cell? ((⟨gp, i * 6, none⟩ : Addr).add j) = some v := by
        intro j v hj
        obtain ⟨g2, e2, _, hlt, hc⟩ := own_cellK HO1.out (lss_at L i x hx j v hj)
        injection e2 with e2
        injection e2 with e2
        subst e2
        rw [Addr.add_mid, hb.cell hlt]
        exact hc
      have hd := List.drop_eq_getElem_cons (List.getElem?_eq_some_iff.1 hx).1
      rw [(List.getElem?_eq_some_iff.1 hx).2] at hd
      rw [hd, ixG] at hfd
      have HFD := Lib.hid hfd
      have HA := Lib.hid (HP.out wq hb x)
      have HB := Lib.hid hb
      have hin2 : (i : Int) < (n : Int) := by omega
      have h0 : (0 : Int) ≤ (i : Int) := by omega
      clear hb hx hd hfd hglt
      cases hq : p x with
      | true =>
        have HA2 := Lib.hid (show Calls Try.prog g (#[.agg x.cs.toArray] ++ lb) wq fun e w' => e = .returned (.bool true) ∧ Below wq.heap.size wq w' by rw [← hq]; exact HA.out)
        have FE := Lib.hid (show Value.int .i64 (i : Int) = .int .i64 F from by
          have h1 := HFD.out
          rw [if_pos hq] at h1
          rw [HF.out, h1])
        clear hq HA
        go_wp2_with (first
          | (with_reducible show wpList _ _ _ _ _ _; refine wpList_load_allW rfl 80 (.tmp 14) rfl ⟨gp, i * 6, none⟩ rfl x.cs _ KX Try.underlying80 rfl (lsSize _) ?_)
          | (go_at_fn g; refine HA2.out.mono ?_; rintro e w6 ⟨rfl, hb6⟩; have HB6 := Lib.hid (HB.out.trans (hb6.mono HB.out.size)); clear hb6))
        go_ret
        have HB7 : Below w.heap.size w w6 := by first | exact HB6.out | (rename_i h6; exact h6.out) | assumption
        exact ⟨congrArg Ending.returned FE.out, HB7⟩
      | false =>
        have HA2 := Lib.hid (show Calls Try.prog g (#[.agg x.cs.toArray] ++ lb) wq fun e w' => e = .returned (.bool false) ∧ Below wq.heap.size wq w' by rw [← hq]; exact HA.out)
        have FE := Lib.hid (show ixG p (L.drop (i + 1)) (i + 1) = ixL p L from by
          have h1 := HFD.out
          rwa [if_neg (by rw [hq]; decide)] at h1)
        clear hq HA
        go_wp2_with (first
          | (with_reducible show wpList _ _ _ _ _ _; refine wpList_load_allW rfl 80 (.tmp 14) rfl ⟨gp, i * 6, none⟩ rfl x.cs _ KX Try.underlying80 rfl (lsSize _) ?_)
          | (go_at_fn g; refine HA2.out.mono ?_; rintro e w6 ⟨rfl, hb6⟩; have HB6 := Lib.hid (HB.out.trans (hb6.mono HB.out.size)); clear hb6))
        exact ⟨⟨i + 1, by rw [← HN.out]; omega, rfl, FE.out, HB6.out⟩, by simp [intOf]; omega⟩
    · have hin2 : ¬ (i : Int) < (n : Int) := by omega
      have hie : i = L.length := by have := HN.out; omega
      have FE := Lib.hid (show (-1 : Int) = F from by
        rw [hie, List.drop_length] at hfd
        rw [HF.out, ← hfd]
        rfl)
      have HB := Lib.hid hb
      clear hfd hie hb
      go_wp2_with fail
      go_ret
      exact ⟨congrArg (fun z => Ending.returned (.int .i64 z)) FE.out, HB.out⟩
theorem containsL_any {w : World} {B0 : Nat} {ao : Option Addr} {c : Nat} {L : List Ls} (hL : LRow w B0 ao c L) (hl : L.length ≤ 1000) {g : Nat} {lb : Array Value} {p : Ls → Bool} (hp : Asks g lb p w) (eg : ∀ args w, (callFunc g args).run Try.prog w = .ok (.enter g args) w) :
    Calls Try.prog 65 #[.slice ao L.length c, .func (.func g) #[] lb] w fun e w' => e = .returned (.bool (L.any p)) ∧ Below w.heap.size w w' := by
  have IX := Lib.hid (indexL_any hL hl hp eg)
  have HD := Lib.hid (ixG_any p L 0)
  obtain ⟨F, hF⟩ : ∃ F, F = ixL p L := ⟨_, rfl⟩
  rw [← hF] at IX
  have HE := Lib.hid (show decide ((0 : Int) ≤ F) = L.any p by rw [hF]; exact HD.out)
  clear hL hp hF
  obtain ⟨n, hn⟩ : ∃ n, n = L.length := ⟨_, rfl⟩
  rw [← hn] at IX hl ⊢
  clear hn
  go_enter Try.func65, Try.ntmps65
  go_wp2_with (first | (with_reducible refine IX.out.mono ?_; rintro e w1 ⟨rfl, hb⟩; have HB := Lib.hid hb; clear hb))
  go_ret
  exact ⟨congrArg (fun z => Ending.returned (.bool z)) HE.out, HB.out⟩
end Go.Proofs.Ytkmhbbcppjckiaa.Ma
