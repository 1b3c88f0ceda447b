/- The walk of EventCuts. -/
import Derived.Test.YtgdoolchmimgbaaGreatDoorIP
import Derived.Test.YtgdoolchmimgbaaGreatDoorG7
namespace Go.Proofs.YtgdoolchmimgbaaGreatDoor.Wi
open Go Go.RowKit
set_option linter.unusedVariables false
set_option linter.unusedSimpArgs false
/-- Bytes out of any slice written behind a row of one's own. -/
theorem wpList_apS {ops : Array Oper} {rest : List Oper} {o : Oper} {a : Act} {Q : Exit → Act → World → Prop} {w : World} (hgd : o.guard = none) (s x : Operand)
    (ho : o.op = .call { callee := .builtin .append, args := #[s, x], argTypes := #[30, 30] })
    (B : Nat) (ao : Option Addr) (c : Nat) (xs : List UInt8) (n : Nat) (hsv : a.eval s = .slice ao n c) (own : w.ownsRow B 5 1 (.slice ao n c) n (bvs xs)) (hB : B ≤ w.heap.size)
    (ys : List UInt8) (m : Nat) (xv : Value) (hx : a.eval x = xv) (src : Go.Src Tryz.prog 1 30 xv m (bvs ys) w) (hlim : n + m ≤ 140737488355328)
    (h : ∀ ao' c' w', w'.ownsRow B 5 1 (.slice ao' (n + m) c') (n + m) (bvs (xs ++ ys)) → Below B w w' → (∀ k, k < w.heap.size → some k ≠ (Value.slice ao n c).ownBlock → w'.heap[k]? = w.heap[k]?) → wpList Tryz.prog ops Q rest (a.put o.dst (.slice ao' (n + m) c')) w') :
    wpList Tryz.prog ops Q (o :: rest) a w := by
  obtain ⟨i0, hi, hz0, hz1, hz2⟩ := info_parts Tryz.info5
  refine wpList_append_own_src _ hgd s x 30 30 ho B 5 i0 (.int .u8 0) 1 1 Tryz.underlying30 hi hz0 hz1 hz2 rfl _ n (bvs xs) hsv own _ m (bvs ys) hx src (by unfold maxLen; omega) (by omega) hB ?_
  intro v' w' hg
  obtain ⟨a2, c2, rfl, own4, hb4, blk4⟩ := grew_zeroK own hB (Nat.le_refl _) hg
  rw [← bvs_append] at own4
  exact h a2 c2 w' own4 hb4 blk4
theorem src_Sl {w : World} {ao : Option Addr} {c m : Nat} {ys : List UInt8} (h : Sl w (.slice ao m c) ys) (hm : ys.length = m) : Go.Src Tryz.prog 1 30 (.slice ao m c) m (bvs ys) w := by
  obtain ⟨ao', c', e, hno, hs⟩ := h
  injection e with e1 e2 e3
  subst e1 e3
  exact Src.any _ (e' := 5) Tryz.underlying30 ao _ c (bvs ys) (by rw [bvs_length, Nat.mul_one, hm]) (fun h => by rw [← hm, hno h]; rfl) hs (bvs_one ys)
theorem own_cap {B : Nat} {w : World} {e : TypeId} {size n c : Nat} {ao : Option Addr} {xs : List Value} (h : w.ownsRow B e size (.slice ao n c) n xs) : n ≤ c := by
  rcases h.2 with ⟨e1, e0⟩ | ⟨g, cap, cur, e1, _, _, h3, _⟩
  · omega
  · injection e1 with _ _ e3
    omega
set_option maxHeartbeats 16000000 in
set_option maxRecDepth 100000 in
theorem ecuts_any (v : Ev) (z zb : Int) (hzi : -9223372036854775808 ≤ z ∧ z ≤ 9223372036854775807) (hzb : 0 ≤ zb ∧ zb ≤ 255) (w : World) (hv : v.At w.heap.size w) (hg : EB w.heap.size w) :
    Calls Tryz.prog 5 #[.agg v.cells.toArray, .int .i64 z, .int .u8 zb] w fun e w' => e = .returned (.bool true) ∧ Below w.heap.size w w' := by
  obtain ⟨w1, hw1⟩ : ∃ bx, bx = w.alloc (.cells v.cells.toArray 26) := ⟨_, rfl⟩
  obtain ⟨g, hg⟩ : ∃ bx, bx = w.heap.size := ⟨_, rfl⟩
  have bw1 : Below w.heap.size w w1 := by rw [hw1]; exact (Below.refl _ _).alloc (Nat.le_refl _) _
  have nw1 : w1.heap[g]? = some (.cells v.cells.toArray 26 (0, 0)) := by rw [hw1, hg]; exact heap_alloc_new _ _
  have Kw1 := Lib.hid (rowE nw1)
  have Cw1 := Lib.hid (evC nw1)
  have Hw1 := Lib.hid hw1
  have Hg := Lib.hid hg
  have Bw1 := Lib.hid bw1
  have Nw1 := Lib.hid nw1
  clear hw1 hg bw1 nw1
  have HV := Lib.hid ((hv.below Bw1.out).mono Bw1.out.size)
  have G := Lib.hid ((hg.on Bw1.out).base Bw1.out.size)
  have CH := Lib.hid (tells_any w1 G.out)
  have HZB := Lib.hid hzb
  clear hv hg hzi hzb
  go_enter Tryz.func5, Tryz.ntmps5
  go_upto_region 1 with fail
  rw [← Hw1.out, ← Hg.out]
  go_wp2_with fail
  refine CH.out.mono ?_
  rintro e w2 ⟨rfl, hb2⟩
  have Kw2 := Lib.hid (rowEB (x := v) Nw1.out hb2)
  have CF := Lib.hid (esmall_one ((HV.out.below hb2).mono hb2.size))
  have hl4 := v.cells_len
  go_wp2_with (first | (with_reducible show wpList _ _ _ _ _ _; refine wpList_load_allW rfl 26 (.tmp 3) rfl ⟨g,0,none⟩ rfl v.cells _ Kw2.out Tryz.underlying26 rfl (Tryz.evSize v) ?_))
  clear hl4
  rw [bs1E]
  refine CF.out.mono ?_
  rintro e w3 ⟨⟨b, rfl⟩, hb3⟩
  have hb13 := hb2.trans (hb3.mono hb2.size)
  have RL3 := Lib.hid (Bw1.out.trans (hb13.mono Bw1.out.size))
  cases b
  · clear hb2 hb3 hb13
    go_wp2_with fail
    go_ret
    exact ⟨rfl, RL3.out⟩
  have Kw3 := Lib.hid (rowEB (x := v) Nw1.out hb13)
  have CG := Lib.hid (rcheckE_any v w1.heap.size w3 (HV.out.below hb13) hb13.size)
  obtain ⟨E, hE⟩ : ∃ E, E = v.vE := ⟨_, rfl⟩
  rw [← hE] at CG
  have HE := Lib.hid hE
  clear hE
  go_wp2_with (first | (with_reducible show wpList _ _ _ _ _ _; refine wpList_loadWanted (by with_unfolding_all rfl) 26 (.tmp 3) rfl ⟨g,0,none⟩ (by with_unfolding_all rfl) v.cells _ Kw3.out Tryz.underlying26 rfl (Tryz.evSize v) ?_))
  refine CG.out.mono ?_
  rintro e w4 ⟨rfl, hb4⟩
  have hb14 := hb13.trans (hb4.mono hb13.size)
  have RL4 := Lib.hid (Bw1.out.trans (hb14.mono Bw1.out.size))
  by_cases hE0 : E = 0
  case neg =>
    have hE1 : (E != 0) = true := by simpa using hE0
    clear hb2 hb3 hb13 hb4 hb14
    go_wp2_with fail
    go_ret
    exact ⟨rfl, RL4.out⟩
  subst hE0
  have HVE := Lib.hid (show v.vE = 0 from HE.out.symm)
  have HF := Lib.hid (fine (Ev.fits HVE.out).val.1)
  have G4 := Lib.hid ((G.out.on hb14).base hb14.size)
  have HV4 := Lib.hid ((HV.out.below hb14).mono hb14.size)
  have Kw4 := Lib.hid (fun (W : World) (h : Below w4.heap.size w4 W) => rowEB (x := v) Nw1.out (hb14.trans (h.mono hb14.size)))
  have CE := Lib.hid (eencode_any v w4.heap.size w4 HV4.out (Nat.le_refl _) G4.out)
  have Kw4a := Lib.hid (Kw4.out w4 (Below.refl _ _))
  have HNUM := Lib.hid (show v.Num from ⟨HV4.out.a.2, HV4.out.b.2, HV4.out.val.num⟩)
  clear hb2 hb3 hb13 hb4 hb14 CF CG CH G HE RL3 HV
  go_wp2_with (first | (with_reducible show wpList _ _ _ _ _ _; refine wpList_load_allW rfl 26 (.tmp 3) rfl ⟨g,0,none⟩ rfl v.cells _ Kw4a.out Tryz.underlying26 rfl (Tryz.evSize v) ?_))
  refine CE.out.mono ?_
  rintro e w5 ⟨hb5, hP⟩
  rw [if_pos HVE.out] at hP
  obtain ⟨ao5, c5, rfl, own5⟩ := hP
  have hcap := own_cap own5
  have hS5 := own_Sl own5 rfl
  obtain ⟨m, hm⟩ : ∃ m, m = v.eb.length := ⟨_, rfl⟩
  have hm512 : m ≤ 800 := by rw [hm]; exact eb_len HVE.out
  rw [← hm] at hcap hS5 ⊢
  have HM := Lib.hid hm
  have S5 := Lib.hid (fun (W : World) (h : Below w5.heap.size w5 W) => hS5.below h)
  have RL5 := Lib.hid (RL4.out.trans (hb5.mono RL4.out.size))
  have G5 := Lib.hid ((G4.out.on hb5).base hb5.size)
  clear hm own5 hS5 CE hb5
  by_cases hz0 : z < 0
  · go_wp2_with fail
    go_ret
    exact ⟨rfl, RL5.out⟩
  by_cases hzm : (m : Int) ≤ z
  · go_wp2_with fail
    go_ret
    exact ⟨rfl, RL5.out⟩
  obtain ⟨k, rfl⟩ : ∃ k : Nat, z = (k : Int) := ⟨z.toNat, by omega⟩
  have hkm : k < m := by omega
  have hkc : (k : Int) ≤ (c5 : Int) := by omega
  have hk0 : (0 : Int) ≤ (k : Int) := by omega
  have CD := edecode_any (w := w5) (ao := ao5) (c := c5) (xs := v.eb.take k) (by
    have h := (S5.out w5 (Below.refl _ _)).front (k := k) (by omega) c5
    rwa [show (v.eb.take k).length = k by rw [List.length_take, ← HM.out]; omega]) (by rw [List.length_take, ← HM.out]; omega) G5.out
  rw [dcE_short HNUM.out HVE.out (by rw [← HM.out]; exact hkm), show (v.eb.take k).length = k by rw [List.length_take, ← HM.out]; omega] at CD
  have HCD := Lib.hid CD
  clear CD
  go_wp2_with fail
  refine HCD.out.mono ?_
  rintro e w6 ⟨U1, rfl, _, _, _, hb6⟩
  obtain ⟨w7, hw7⟩ : ∃ bx, bx = w6.alloc (.cells U1.cells.toArray 26) := ⟨_, rfl⟩
  obtain ⟨g7, hg7⟩ : ∃ bx, bx = w6.heap.size := ⟨_, rfl⟩
  have bw7 : Below w6.heap.size w6 w7 := by rw [hw7]; exact (Below.refl _ _).alloc (Nat.le_refl _) _
  have nw7 : w7.heap[g7]? = some (.cells U1.cells.toArray 26 (0, 0)) := by rw [hw7, hg7]; exact heap_alloc_new _ _
  have Kw7 := Lib.hid (rowE nw7)
  have Cw7 := Lib.hid (evC nw7)
  have Hw7 := Lib.hid hw7
  have Hg7 := Lib.hid hg7
  have Bw7 := Lib.hid bw7
  have Nw7 := Lib.hid nw7
  clear hw7 hg7 bw7 nw7
  have B57 := Lib.hid (hb6.trans (Bw7.out.mono hb6.size))
  clear hb6 HCD
  obtain ⟨mb, hmb⟩ : ∃ mb : UInt8, zb = (mb.toNat : Int) := ⟨UInt8.ofNat zb.toNat, by have := HZB.out; rw [UInt8.toNat_ofNat']; omega⟩
  have owp : (w7.alloc (.cells #[] 5)).ownsRow w7.heap.size 5 1 (.slice (some ⟨w7.heap.size, 0, none⟩) 0 0) 0 (bvs []) := World.ownsRow_made w7 #[] 0 (Nat.le_refl _) (Nat.zero_le _) rfl
  have bwp : Below w7.heap.size w7 (w7.alloc (.cells #[] 5)) := (Below.refl _ _).alloc (Nat.le_refl _) _
  have OWp := Lib.hid owp
  have BSp := Lib.hid (show w7.heap.size ≤ (w7.alloc (.cells #[] 5)).heap.size by simp)
  have SRp := Lib.hid (src_Sl (S5.out _ (B57.out.trans (bwp.mono B57.out.size))) HM.out.symm)
  have BBp := Lib.hid (fun (W : World) (h : Below w7.heap.size (w7.alloc (.cells #[] 5)) W) => bwp.trans h)
  have LMp := Lib.hid (show 0 + m ≤ 140737488355328 by omega)
  have LNp := Lib.hid (show m + 1 ≤ 140737488355328 by omega)
  have CSb := Lib.hid (show (#[.int .u8 zb] : Array Value) = (bvs [mb]).toArray by rw [hmb]; rfl)
  clear owp bwp hmb
  go_wp2_with (first
    | (with_reducible show wpList _ _ _ _ _ _; refine wpList_store_newW rfl 26 (.tmp 9) (.tmp 42) rfl 26 _ U1.cells.toArray rfl rfl (Tryz.evSize' U1) (by with_unfolding_all exact Ev.eleven U1) U1.cells_one ?_; rw [← Hw7.out, ← Hg7.out])
    | (with_reducible show wpList _ _ _ _ _ _; refine wpList_apS (by with_unfolding_all rfl) (.tmp 45) (.tmp 46) (by with_unfolding_all rfl) w7.heap.size (some ⟨w7.heap.size, 0, none⟩) 0 [] 0 (by with_unfolding_all rfl) OWp.out BSp.out v.eb m (.slice ao5 m c5) (by with_unfolding_all rfl) SRp.out LMp.out ?_; intro ap cp wp oap bap _; rw [Nat.zero_add, List.nil_append] at oap; rw [Nat.zero_add]; have OAp := Lib.hid oap; have BAp := Lib.hid (BBp.out _ bap); have BZp := Lib.hid BAp.out.size; clear oap bap)
    | (with_reducible show wpList _ _ _ _ _ _; refine wpList_apb (by with_unfolding_all rfl) (.tmp 47) (.tmp 49) (by with_unfolding_all rfl) w7.heap.size ap cp v.eb m HM.out (by with_unfolding_all rfl) OAp.out BZp.out #[.int .u8 zb] [mb] 1 CSb.out rfl (by with_unfolding_all rfl) LNp.out ?_; intro dp ep xp obp bbp; have OBp := Lib.hid obp; have BCp := Lib.hid (BAp.out.trans bbp); clear obp bbp))
  have hS9 := own_Sl OBp.out (by rw [List.length_append, ← HM.out]; rfl)
  have B7p := Lib.hid (B57.out.trans (BCp.out.mono B57.out.size))
  have CD2 := edecode_any (w := xp) (ao := dp) (c := ep) (xs := v.eb ++ [mb]) hS9 (by rw [List.length_append, ← HM.out]; simp; omega) ((G5.out.on B7p.out).base B7p.out.size)
  rw [dcE_more HNUM.out HVE.out (by simp), List.length_append, ← HM.out, List.length_singleton] at CD2
  have HCD2 := Lib.hid CD2
  clear hS9 CD2 OBp BCp OAp BAp BZp OWp BSp SRp BBp LMp LNp
  refine HCD2.out.mono ?_
  rintro e w8 ⟨U2, rfl, _, _, _, hb8⟩
  obtain ⟨w9, hw9⟩ : ∃ bx, bx = w8.alloc (.cells U2.cells.toArray 26) := ⟨_, rfl⟩
  obtain ⟨g9, hg9⟩ : ∃ bx, bx = w8.heap.size := ⟨_, rfl⟩
  have bw9 : Below w8.heap.size w8 w9 := by rw [hw9]; exact (Below.refl _ _).alloc (Nat.le_refl _) _
  have nw9 : w9.heap[g9]? = some (.cells U2.cells.toArray 26 (0, 0)) := by rw [hw9, hg9]; exact heap_alloc_new _ _
  have Kw9 := Lib.hid (rowE nw9)
  have Cw9 := Lib.hid (evC nw9)
  have Hw9 := Lib.hid hw9
  have Hg9 := Lib.hid hg9
  have Bw9 := Lib.hid bw9
  have Nw9 := Lib.hid nw9
  clear hw9 hg9 bw9 nw9
  have RLF := Lib.hid (RL5.out.trans ((B7p.out.trans ((hb8.trans (Bw9.out.mono hb8.size)).mono B7p.out.size)).mono RL5.out.size))
  clear hb8 HCD2
  go_wp2_with (first | (with_reducible show wpList _ _ _ _ _ _; refine wpList_store_newW rfl 26 (.tmp 11) (.tmp 52) rfl 26 _ U2.cells.toArray rfl rfl (Tryz.evSize' U2) (by with_unfolding_all exact Ev.eleven U2) U2.cells_one ?_; rw [← Hw9.out, ← Hg9.out]))
  go_ret
  exact ⟨rfl, RLF.out⟩
end Go.Proofs.YtgdoolchmimgbaaGreatDoor.Wi
