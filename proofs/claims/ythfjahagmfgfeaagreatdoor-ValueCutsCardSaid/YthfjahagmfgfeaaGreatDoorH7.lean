/- The walk of ValueCuts. -/
import Derived.Test.YthfjahagmfgfeaaGreatDoorH4
import Derived.Test.YthfjahagmfgfeaaGreatDoorGC
namespace Go.Proofs.YthfjahagmfgfeaaGreatDoor.Wi
open Go Go.RowKit
set_option linter.unusedVariables false
set_option linter.unusedSimpArgs false
/-- Bytes out of any slice written behind a row of one's own. -/
theorem wpList_apS {ops : Array Oper} {rest : List Oper} {o : Oper} {a : Act} {Q : Exit → Act → World → Prop} {w : World} (hgd : o.guard = none) (s x : Operand)
    (ho : o.op = .call { callee := .builtin .append, args := #[s, x], argTypes := #[29, 29] })
    (B : Nat) (ao : Option Addr) (c : Nat) (xs : List UInt8) (n : Nat) (hsv : a.eval s = .slice ao n c) (own : w.ownsRow B 5 1 (.slice ao n c) n (bvs xs)) (hB : B ≤ w.heap.size)
    (ys : List UInt8) (m : Nat) (xv : Value) (hx : a.eval x = xv) (src : Go.Src Tryz.prog 1 29 xv m (bvs ys) w) (hlim : n + m ≤ 140737488355328)
    (h : ∀ ao' c' w', w'.ownsRow B 5 1 (.slice ao' (n + m) c') (n + m) (bvs (xs ++ ys)) → Below B w w' → (∀ k, k < w.heap.size → some k ≠ (Value.slice ao n c).ownBlock → w'.heap[k]? = w.heap[k]?) → wpList Tryz.prog ops Q rest (a.put o.dst (.slice ao' (n + m) c')) w') :
    wpList Tryz.prog ops Q (o :: rest) a w := by
  obtain ⟨i0, hi, hz0, hz1, hz2⟩ := info_parts Tryz.info5
  refine wpList_append_own_src _ hgd s x 29 29 ho B 5 i0 (.int .u8 0) 1 1 Tryz.underlying29 hi hz0 hz1 hz2 rfl _ n (bvs xs) hsv own _ m (bvs ys) hx src (by unfold maxLen; omega) (by omega) hB ?_
  intro v' w' hg
  obtain ⟨a2, c2, rfl, own4, hb4, blk4⟩ := grew_zeroK own hB (Nat.le_refl _) hg
  rw [← bvs_append] at own4
  exact h a2 c2 w' own4 hb4 blk4
theorem src_Sl {w : World} {ao : Option Addr} {c m : Nat} {ys : List UInt8} (h : Sl w (.slice ao m c) ys) (hm : ys.length = m) : Go.Src Tryz.prog 1 29 (.slice ao m c) m (bvs ys) w := by
  obtain ⟨ao', c', e, hno, hs⟩ := h
  injection e with e1 e2 e3
  subst e1 e3
  exact Src.any _ (e' := 5) Tryz.underlying29 ao _ c (bvs ys) (by rw [bvs_length, Nat.mul_one, hm]) (fun h => by rw [← hm, hno h]; rfl) hs (bvs_one ys)
theorem own_cap {B : Nat} {w : World} {e : TypeId} {size n c : Nat} {ao : Option Addr} {xs : List Value} (h : w.ownsRow B e size (.slice ao n c) n xs) : n ≤ c := by
  rcases h.2 with ⟨e1, e0⟩ | ⟨g, cap, cur, e1, _, _, h3, _⟩
  · omega
  · injection e1 with _ _ e3
    omega
set_option maxHeartbeats 16000000 in
set_option maxRecDepth 100000 in
theorem cuts_any (v : VT) (z : Int) (ao : Option Addr) (c : Nat) (xs : List UInt8) (w : World) (hv : v.At w.heap.size w) (hS : Sl w (.slice ao xs.length c) xs) (hg : GB w.heap.size w) :
    Calls Tryz.prog 5 #[.agg v.cells.toArray, .int .i64 z, .slice ao xs.length c] w fun e w' => e = .returned (.bool true) ∧ Below w.heap.size w w' := by
  obtain ⟨w1, hw1⟩ : ∃ bx, bx = w.alloc (.cells v.cells.toArray 24) := ⟨_, rfl⟩
  obtain ⟨g, hg⟩ : ∃ bx, bx = w.heap.size := ⟨_, rfl⟩
  have bw1 : Below w.heap.size w w1 := by rw [hw1]; exact (Below.refl _ _).alloc (Nat.le_refl _) _
  have nw1 : w1.heap[g]? = some (.cells v.cells.toArray 24 (0, 0)) := by rw [hw1, hg]; exact heap_alloc_new _ _
  have Kw1 := Lib.hid (rowK nw1)
  have Hw1 := Lib.hid hw1
  have Hg := Lib.hid hg
  have Bw1 := Lib.hid bw1
  have Nw1 := Lib.hid nw1
  clear hw1 hg bw1 nw1
  have HV := Lib.hid ((hv.below Bw1.out).mono Bw1.out.size)
  have G := Lib.hid ((hg.on Bw1.out).base Bw1.out.size)
  have CH := Lib.hid (holds_any w1 G.out)
  obtain ⟨n, hn⟩ : ∃ n, n = xs.length := ⟨_, rfl⟩
  have hS1 := hS.below Bw1.out
  rw [← hn] at hS1 ⊢
  have SL := Lib.hid (fun (W : World) (h : Below w1.heap.size w1 W) => hS1.below h)
  have HN := Lib.hid hn
  clear hv hg hS hS1 hn
  go_enter Tryz.func5, Tryz.ntmps5
  go_upto_region 1 with fail
  rw [← Hw1.out, ← Hg.out]
  go_wp2_with fail
  refine CH.out.mono ?_
  rintro e w2 ⟨rfl, hb2⟩
  have Kw2 := Lib.hid (rowB (v := v) Nw1.out hb2)
  have hl4 := v.cells_len
  have CF := Lib.hid (fits_one ((HV.out.below hb2).mono hb2.size))
  go_wp2_with (first | (with_reducible show wpList _ _ _ _ _ _; refine wpList_load_allW rfl 24 (.tmp 3) rfl ⟨g,0,none⟩ rfl v.cells _ Kw2.out Tryz.underlying24 rfl (Tryz.valSize v) ?_))
  clear hl4
  rw [bs1]
  refine CF.out.mono ?_
  rintro e w3 ⟨⟨b, rfl⟩, hb3⟩
  have hb13 := hb2.trans (hb3.mono hb2.size)
  have RL3 := Lib.hid (Bw1.out.trans (hb13.mono Bw1.out.size))
  cases b
  · clear hb2 hb3 hb13
    go_wp2_with fail
    go_ret
    exact ⟨rfl, RL3.out⟩
  have Kw3 := Lib.hid (rowB (v := v) Nw1.out hb13)
  have CG := Lib.hid (good_any v w1.heap.size w3 (HV.out.below hb13) hb13.size)
  obtain ⟨E, hE⟩ : ∃ E, E = decide (v.vE = 0) := ⟨_, rfl⟩
  rw [← hE] at CG
  have HE := Lib.hid hE
  clear hE
  go_wp2_with (first | (with_reducible show wpList _ _ _ _ _ _; refine wpList_loadWanted (by with_unfolding_all rfl) 24 (.tmp 3) rfl ⟨g,0,none⟩ (by with_unfolding_all rfl) v.cells _ Kw3.out Tryz.underlying24 rfl (Tryz.valSize v) ?_))
  refine CG.out.mono ?_
  rintro e w4 ⟨rfl, hb4⟩
  have hb14 := hb13.trans (hb4.mono hb13.size)
  have RL4 := Lib.hid (Bw1.out.trans (hb14.mono Bw1.out.size))
  cases E
  · clear hb2 hb3 hb13 hb4 hb14
    go_wp2_with fail
    go_ret
    exact ⟨rfl, RL4.out⟩
  by_cases h100 : (100 : Int) < (n : Int)
  · clear hb2 hb3 hb13 hb4 hb14
    go_wp2_with fail
    go_ret
    exact ⟨rfl, RL4.out⟩
  by_cases h0 : (n : Int) = 0
  · clear hb2 hb3 hb13 hb4 hb14
    have h0' : n = 0 := by omega
    subst h0'
    go_wp2_with fail
    go_ret
    exact ⟨rfl, RL4.out⟩
  have h0b : ((n : Int) == 0) = false := by simpa using h0
  have HVE := Lib.hid (of_decide_eq_true HE.out.symm)
  have HF := Lib.hid (fine HVE.out)
  have G4 := Lib.hid ((G.out.on hb14).base hb14.size)
  have HV4 := Lib.hid ((HV.out.below hb14).mono hb14.size)
  have Kw4 := Lib.hid (fun (W : World) (h : Below w4.heap.size w4 W) => rowB (v := v) Nw1.out (hb14.trans (h.mono hb14.size)))
  have SL4 := Lib.hid (fun (W : World) (h : Below w4.heap.size w4 W) => SL.out W (hb14.trans (h.mono hb14.size)))
  have CE := Lib.hid (vencode_any v w4.heap.size w4 HV4.out (Nat.le_refl _))
  have Kw4a := Lib.hid (Kw4.out w4 (Below.refl _ _))
  clear hb2 hb3 hb13 hb4 hb14 CF CG CH G HE RL3 HV SL
  go_wp2_with (first | (with_reducible show wpList _ _ _ _ _ _; refine wpList_load_allW rfl 24 (.tmp 3) rfl ⟨g,0,none⟩ rfl v.cells _ Kw4a.out Tryz.underlying24 rfl (Tryz.valSize v) ?_))
  refine CE.out.mono ?_
  rintro e w5 ⟨hb5, hP⟩
  rw [if_pos HVE.out] at hP
  obtain ⟨ao5, c5, rfl, own5⟩ := hP
  have hcap := own_cap own5
  have hS5 := own_Sl own5 rfl
  obtain ⟨m, hm⟩ : ∃ m, m = v.vb.length := ⟨_, rfl⟩
  have hm512 : m ≤ 512 := by rw [hm]; exact HF.out.vb
  rw [← hm] at hcap hS5 ⊢
  have HM := Lib.hid hm
  have S5 := Lib.hid (fun (W : World) (h : Below w5.heap.size w5 W) => hS5.below h)
  have RL5 := Lib.hid (RL4.out.trans (hb5.mono RL4.out.size))
  have HB5 := Lib.hid hb5
  clear hm own5 hS5 CE hb5
  by_cases hz0 : z < 0
  · go_wp2_with fail
    go_ret
    exact ⟨rfl, RL5.out⟩
  by_cases hzm : (m : Int) ≤ z
  · go_wp2_with fail
    go_ret
    exact ⟨rfl, RL5.out⟩
  obtain ⟨k, rfl⟩ : ∃ k : Nat, z = (k : Int) := ⟨z.toNat, by omega⟩
  have hkm : k < m := by omega
  have hkc : (k : Int) ≤ (c5 : Int) := by omega
  have hk0 : (0 : Int) ≤ (k : Int) := by omega
  have CD := vdecode_any (w := w5) (ao := ao5) (c := c5) (xs := v.vb.take k) (by
    have h := (S5.out w5 (Below.refl _ _)).front (k := k) (by omega) c5
    rwa [show (v.vb.take k).length = k by rw [List.length_take, ← HM.out]; omega]) (by rw [List.length_take, ← HM.out]; omega)
  rw [dcV_short HV4.out.num HVE.out (by rw [← HM.out]; exact hkm), show (v.vb.take k).length = k by rw [List.length_take, ← HM.out]; omega] at CD
  have HCD := Lib.hid CD
  clear CD
  go_wp2_with fail
  refine HCD.out.mono ?_
  rintro e w6 ⟨U1, rfl, _, _, _, hb6⟩
  obtain ⟨w7, hw7⟩ : ∃ bx, bx = w6.alloc (.cells U1.cells.toArray 24) := ⟨_, rfl⟩
  obtain ⟨g7, hg7⟩ : ∃ bx, bx = w6.heap.size := ⟨_, rfl⟩
  have bw7 : Below w6.heap.size w6 w7 := by rw [hw7]; exact (Below.refl _ _).alloc (Nat.le_refl _) _
  have nw7 : w7.heap[g7]? = some (.cells U1.cells.toArray 24 (0, 0)) := by rw [hw7, hg7]; exact heap_alloc_new _ _
  have Kw7 := Lib.hid (rowK nw7)
  have Hw7 := Lib.hid hw7
  have Hg7 := Lib.hid hg7
  have Bw7 := Lib.hid bw7
  have Nw7 := Lib.hid nw7
  clear hw7 hg7 bw7 nw7
  have B57 := Lib.hid (hb6.trans (Bw7.out.mono hb6.size))
  clear hb6 HCD
  have owp : (w7.alloc (.cells #[] 5)).ownsRow w7.heap.size 5 1 (.slice (some ⟨w7.heap.size, 0, none⟩) 0 0) 0 (bvs []) := World.ownsRow_made w7 #[] 0 (Nat.le_refl _) (Nat.zero_le _) rfl
  have bwp : Below w7.heap.size w7 (w7.alloc (.cells #[] 5)) := (Below.refl _ _).alloc (Nat.le_refl _) _
  have OWp := Lib.hid owp
  have BSp := Lib.hid (show w7.heap.size ≤ (w7.alloc (.cells #[] 5)).heap.size by simp)
  have SRp := Lib.hid (src_Sl (S5.out _ (B57.out.trans (bwp.mono B57.out.size))) HM.out.symm)
  have BBp := Lib.hid (fun (W : World) (h : Below w7.heap.size (w7.alloc (.cells #[] 5)) W) => bwp.trans h)
  have LMp := Lib.hid (show 0 + m ≤ 140737488355328 by omega)
  have LNp := Lib.hid (show m + n ≤ 140737488355328 by omega)
  have MSp := Lib.hid (fun (W : World) (h : Below w7.heap.size w7 W) => src_Sl (SL4.out W (HB5.out.trans ((B57.out.trans (h.mono B57.out.size)).mono HB5.out.size))) HN.out.symm)
  clear owp bwp
  go_wp2_with (first
    | (with_reducible show wpList _ _ _ _ _ _; refine wpList_store_newW rfl 24 (.tmp 9) (.tmp 54) rfl 24 _ U1.cells.toArray rfl rfl (Tryz.valSize' U1) (by with_unfolding_all exact VT.four U1) U1.cells_one ?_; rw [← Hw7.out, ← Hg7.out])
    | (with_reducible show wpList _ _ _ _ _ _; refine wpList_apS (by with_unfolding_all rfl) (.tmp 57) (.tmp 58) (by with_unfolding_all rfl) w7.heap.size (some ⟨w7.heap.size, 0, none⟩) 0 [] 0 (by with_unfolding_all rfl) OWp.out BSp.out v.vb m (.slice ao5 m c5) (by with_unfolding_all rfl) SRp.out LMp.out ?_; intro ap cp wp oap bap _; rw [Nat.zero_add, List.nil_append] at oap; rw [Nat.zero_add]; have OAp := Lib.hid oap; have BAp := Lib.hid (BBp.out _ bap); have MTp := Lib.hid (MSp.out _ BAp.out); have BZp := Lib.hid BAp.out.size; clear oap bap)
    | (with_reducible show wpList _ _ _ _ _ _; refine wpList_apS (by with_unfolding_all rfl) (.tmp 59) (.tmp 60) (by with_unfolding_all rfl) w7.heap.size ap cp v.vb m (by with_unfolding_all rfl) OAp.out BZp.out xs n (.slice ao n c) (by with_unfolding_all rfl) MTp.out LNp.out ?_; intro dp ep xp obp bbp _; have OBp := Lib.hid obp; have BCp := Lib.hid (BAp.out.trans bbp); clear obp bbp))
  have hS9 := own_Sl OBp.out (by rw [List.length_append, ← HM.out, ← HN.out])
  have CD2 := vdecode_any (w := xp) (ao := dp) (c := ep) (xs := v.vb ++ xs) hS9 (by rw [List.length_append, ← HM.out, ← HN.out]; omega)
  rw [dcV_more HV4.out.num HVE.out (by intro h; rw [h] at HN; have := HN.out; simp at this; omega), List.length_append, ← HM.out, ← HN.out] at CD2
  have HCD2 := Lib.hid CD2
  have B7p := Lib.hid (B57.out.trans (BCp.out.mono B57.out.size))
  clear hS9 CD2 OBp BCp OAp BAp MTp BZp OWp BSp SRp BBp LMp LNp MSp
  refine HCD2.out.mono ?_
  rintro e w8 ⟨U2, rfl, _, _, _, hb8⟩
  obtain ⟨w9, hw9⟩ : ∃ bx, bx = w8.alloc (.cells U2.cells.toArray 24) := ⟨_, rfl⟩
  obtain ⟨g9, hg9⟩ : ∃ bx, bx = w8.heap.size := ⟨_, rfl⟩
  have bw9 : Below w8.heap.size w8 w9 := by rw [hw9]; exact (Below.refl _ _).alloc (Nat.le_refl _) _
  have nw9 : w9.heap[g9]? = some (.cells U2.cells.toArray 24 (0, 0)) := by rw [hw9, hg9]; exact heap_alloc_new _ _
  have Kw9 := Lib.hid (rowK nw9)
  have Hw9 := Lib.hid hw9
  have Hg9 := Lib.hid hg9
  have Bw9 := Lib.hid bw9
  have Nw9 := Lib.hid nw9
  clear hw9 hg9 bw9 nw9
  have B59 := Lib.hid (B7p.out.trans ((hb8.trans (Bw9.out.mono hb8.size)).mono B7p.out.size))
  clear hb8 HCD2
  have owq : (w9.alloc (.cells #[] 5)).ownsRow w9.heap.size 5 1 (.slice (some ⟨w9.heap.size, 0, none⟩) 0 0) 0 (bvs []) := World.ownsRow_made w9 #[] 0 (Nat.le_refl _) (Nat.zero_le _) rfl
  have bwq : Below w9.heap.size w9 (w9.alloc (.cells #[] 5)) := (Below.refl _ _).alloc (Nat.le_refl _) _
  have OWq := Lib.hid owq
  have BSq := Lib.hid (show w9.heap.size ≤ (w9.alloc (.cells #[] 5)).heap.size by simp)
  have SRq := Lib.hid (src_Sl (S5.out _ (B59.out.trans (bwq.mono B59.out.size))) HM.out.symm)
  have BBq := Lib.hid (fun (W : World) (h : Below w9.heap.size (w9.alloc (.cells #[] 5)) W) => bwq.trans h)
  have LMq := Lib.hid (show 0 + m ≤ 140737488355328 by omega)
  have LNq := Lib.hid (show m + n ≤ 140737488355328 by omega)
  have MSq := Lib.hid (fun (W : World) (h : Below w9.heap.size w9 W) => src_Sl (SL4.out W (HB5.out.trans ((B59.out.trans (h.mono B59.out.size)).mono HB5.out.size))) HN.out.symm)
  clear owq bwq
  go_wp2_with (first
    | (with_reducible show wpList _ _ _ _ _ _; refine wpList_store_newW rfl 24 (.tmp 11) (.tmp 63) rfl 24 _ U2.cells.toArray rfl rfl (Tryz.valSize' U2) (by with_unfolding_all exact VT.four U2) U2.cells_one ?_; rw [← Hw9.out, ← Hg9.out])
    | (with_reducible show wpList _ _ _ _ _ _; refine wpList_apS (by with_unfolding_all rfl) (.tmp 65) (.tmp 66) (by with_unfolding_all rfl) w9.heap.size (some ⟨w9.heap.size, 0, none⟩) 0 [] 0 (by with_unfolding_all rfl) OWq.out BSq.out v.vb m (.slice ao5 m c5) (by with_unfolding_all rfl) SRq.out LMq.out ?_; intro aq cq wq oaq baq _; rw [Nat.zero_add, List.nil_append] at oaq; rw [Nat.zero_add]; have OAq := Lib.hid oaq; have BAq := Lib.hid (BBq.out _ baq); have MTq := Lib.hid (MSq.out _ BAq.out); have BZq := Lib.hid BAq.out.size; clear oaq baq)
    | (with_reducible show wpList _ _ _ _ _ _; refine wpList_apS (by with_unfolding_all rfl) (.tmp 67) (.tmp 68) (by with_unfolding_all rfl) w9.heap.size aq cq v.vb m (by with_unfolding_all rfl) OAq.out BZq.out xs n (.slice ao n c) (by with_unfolding_all rfl) MTq.out LNq.out ?_; intro dq eq xq obq bbq _; have OBq := Lib.hid obq; have BCq := Lib.hid (BAq.out.trans bbq); clear obq bbq))
  have hS10 := own_Sl OBq.out (by rw [List.length_append, ← HM.out, ← HN.out])
  have hsz10 : (v.vb ++ xs).length ≤ 140737488355328 := by rw [List.length_append, ← HM.out, ← HN.out]; omega
  have CR := read_sl hS10 hsz10
  rw [List.length_append, ← HM.out, ← HN.out] at CR
  have HCR := Lib.hid CR
  have B9q := Lib.hid (B59.out.trans (BCq.out.mono B59.out.size))
  have HSZ := Lib.hid hsz10
  clear hS10 hsz10 CR OBq BCq OAq BAq MTq BZq OWq BSq SRq BBq LMq LNq MSq
  refine HCR.out.mono ?_
  rintro e w10 ⟨b, r, rfl, hR10, hb10, hbl, _⟩
  have HBL := Lib.hid (Nat.le_trans B9q.out.size hbl)
  have B510 := Lib.hid (B9q.out.trans (hb10.mono B9q.out.size))
  have VR := vread_any hR10 HSZ.out
  rw [rdV_fwd (rest := xs) HV4.out.num HVE.out (by simp), Nat.zero_add] at VR
  have HVR := Lib.hid VR
  have HLT := Lib.hid hR10.lt
  clear VR hR10 hb10 HCR hbl
  go_wp2_with fail
  refine HVR.out.mono ?_
  rintro e w11 ⟨y, rfl, hyz, hya, _, hR11, hF11⟩
  dsimp only at hyz hR11
  rw [← HM.out] at hR11
  have B511 := Lib.hid (fr_new B510.out B510.out.size hF11 HBL.out (fun g hg => by cases hg))
  obtain ⟨w12, hw12⟩ : ∃ bx, bx = w11.alloc (.cells y.cells.toArray 24) := ⟨_, rfl⟩
  obtain ⟨g12, hg12⟩ : ∃ bx, bx = w11.heap.size := ⟨_, rfl⟩
  have bw12 : Below w11.heap.size w11 w12 := by rw [hw12]; exact (Below.refl _ _).alloc (Nat.le_refl _) _
  have nw12 : w12.heap[g12]? = some (.cells y.cells.toArray 24 (0, 0)) := by rw [hw12, hg12]; exact heap_alloc_new _ _
  have Kw12 := Lib.hid (rowK nw12)
  have Hw12 := Lib.hid hw12
  have Hg12 := Lib.hid hg12
  have Bw12 := Lib.hid bw12
  have Nw12 := Lib.hid nw12
  clear hw12 hg12 bw12 nw12
  have B512 := Lib.hid (B511.out.trans (Bw12.out.mono B511.out.size))
  have R12 := Lib.hid (hR11.below (B := 0) Bw12.out)
  have YA := Lib.hid ((hya.below Bw12.out).mono Bw12.out.size)
  have RLF := Lib.hid (fun (W : World) (h : Below w12.heap.size w12 W) => (RL5.out.trans (B512.out.mono RL5.out.size)).trans (h.mono (Nat.le_trans RL5.out.size B512.out.size)))
  have B412 := Lib.hid (HB5.out.trans (B512.out.mono HB5.out.size))
  have KV := Lib.hid (Kw4.out w12 B412.out)
  have hc : y.cmp v = 0 := by rw [← nz_cmpL y, hyz, nz_cmpL]; exact cmp_self v HF.out.kin
  have SU := Lib.hid (show Calls Tryz.prog 19 #[.agg y.cells.toArray, .agg v.cells.toArray] w12 fun e w' => e = .returned (.bool true) ∧ Below w12.heap.size w12 w' from by
    have h1 := vsame_any y v (by rw [← nz_dpr, hyz, nz_dpr]; exact HF.out.dpr) w12.heap.size w12 YA.out ((HV4.out.below B412.out).mono B412.out.size) (Nat.le_refl _)
    rw [hc] at h1
    exact h1)
  have LR := Lib.hid (show rl (v.vb ++ xs) m 0 = n by unfold rl; rw [if_pos rfl, List.length_append, ← HM.out, ← HN.out]; omega)
  clear hyz hya hR11 hF11 hc HVR B510 B511 HBL HV4 HF HVE
  go_wp2_with (first
    | (with_reducible show wpList _ _ _ _ _ _; refine wpList_store_newW rfl 24 (.tmp 14) (.tmp 72) rfl 24 _ y.cells.toArray rfl rfl (Tryz.valSize' y) (by with_unfolding_all exact VT.four y) y.cells_one ?_; rw [← Hw12.out, ← Hg12.out])
    | (with_reducible show wpList _ _ _ _ _ _; refine wpList_loadWanted (by with_unfolding_all rfl) 24 (.tmp 14) rfl ⟨g12,0,none⟩ (by with_unfolding_all rfl) y.cells _ Kw12.out Tryz.underlying24 rfl (Tryz.valSize y) ?_)
    | (with_reducible show wpList _ _ _ _ _ _; refine wpList_loadWanted (by with_unfolding_all rfl) 24 (.tmp 3) rfl ⟨g,0,none⟩ (by with_unfolding_all rfl) v.cells _ KV.out Tryz.underlying24 rfl (Tryz.valSize v) ?_))
  refine SU.out.mono ?_
  rintro e x1 ⟨rfl, hx1⟩
  have LF := Lib.hid (left_any (R12.out.below (B := 0) hx1) HSZ.out)
  rw [LR.out] at LF
  have RLx := Lib.hid (RLF.out x1 hx1)
  clear hx1
  go_wp2_with fail
  refine LF.out.mono ?_
  rintro e x2 ⟨rfl, nn, hx2⟩
  have RLy := Lib.hid (show Below w.heap.size w x2 by rw [hx2]; exact below_drewG RLx.out nn)
  clear hx2
  go_wp2_with fail
  go_ret
  exact ⟨rfl, RLy.out⟩
end Go.Proofs.YthfjahagmfgfeaaGreatDoor.Wi
