/- The walk of ValueWrites. -/
import Derived.Test.YthfjahagmfgfeaaGreatDoorH4
namespace Go.Proofs.YthfjahagmfgfeaaGreatDoor.Wi
open Go Go.RowKit Go.ChangeShapes Go.WideShapes Go.ChangeAt
set_option linter.unusedVariables false
set_option linter.unusedSimpArgs false
set_option maxRecDepth 100000 in
/-- A list of values that came in. -/
theorem open_vals {H : Type} {enc : TypeId × Value → H} {W : World} {base : Nat} {v : Value} {d : DataW H} {p : List MemPlace} (hv : Value.okWide Tryz.prog W .any base 22 v) (h : DataW.Trod enc Tryz.prog W 0 (fun _ => true) true 22 v d p)
    (hw : ∀ k ∈ d.weights Tryz.prog 22, k ≤ reachBytes) : ∃ (ao : Option Addr) (c : Nat) (l : List VT), v = .slice ao l.length c ∧ (VT.mk 3 0 [] ao c l).At W.heap.size W := by
  obtain ⟨a0, len, cap, rfl⟩ := okWide_slice Tryz.underlying22 hv
  obtain ⟨fuel, hf⟩ := h
  obtain ⟨ao, c, l, e, h1, h2, h3⟩ := open_list (x := (d, p)) (fun m _ cs y h hw => open_cells m cs y h hw) hf hw
  refine ⟨ao, c, l, e, ?_⟩
  rw [VT.At]
  exact ⟨by omega, by omega, by simp, h1, h3, atL_of h2⟩
theorem vbL_short : ∀ {l : List VT}, (∀ x ∈ l, x.vE = 0) → (vbL l).length ≤ 512 * l.length
  | [], _ => by rw [vbL]; simp
  | x :: l, h => by
    have h1 := (fine (h x (by simp))).vb
    have h2 := vbL_short (l := l) fun y hy => h y (by simp [hy])
    rw [vbL, List.length_append, List.length_cons]
    omega
def wrR (w2 : World) (q : Nat) (l : List VT) (nv i : Value) (wr : World) : Prop := ∃ (j : Nat) (r : Option Nat), i = .int .i64 (j : Int) ∧ nv = .int .i64 ((vbL (l.take j)).length : Int) ∧ j ≤ l.length ∧ (∀ x ∈ l.take j, x.vE = 0) ∧ Wr wr q r (vbL (l.take j)) ∧ (∀ g, r = some g → w2.heap.size ≤ g) ∧ Below w2.heap.size w2 wr
def rdR (w2 : World) (b : Nat) (r : Option Nat) (l : List VT) (i : Value) (wr : World) : Prop := ∃ j : Nat, i = .int .i64 (j : Int) ∧ j ≤ l.length ∧ Rd wr b r (vbL l) (vbL (l.take j)).length 0 ∧ Below w2.heap.size w2 wr
set_option maxHeartbeats 16000000 in
set_option maxRecDepth 100000 in
theorem valueWrites_any (ao : Option Addr) (c : Nat) (l : List VT) (w : World) (hv : (VT.mk 3 0 [] ao c l).At w.heap.size w) (hg : GB w.heap.size w) : Calls Tryz.prog 10 #[.slice ao l.length c] w fun e w' => e = .returned (.bool true) ∧ Below w.heap.size w w' := by
  have CH := Lib.hid (holds_any w hg)
  have HV := Lib.hid hv
  have SZ := Lib.hid Tryz.valSize
  clear hv hg
  go_enter Tryz.func10, Tryz.ntmps10
  go_wp2_with fail
  refine CH.out.mono ?_
  rintro e w2 ⟨rfl, hb2⟩
  have HB2 := Lib.hid hb2
  clear hb2 CH
  by_cases h12 : (12 : Int) < (l.length : Int)
  · go_wp2_with fail
    go_ret
    exact ⟨rfl, HB2.out⟩
  have hl12 : l.length ≤ 12 := by omega
  have HV2 := Lib.hid (HV.out.below HB2.out)
  have hN2 : w.heap.size ≤ w2.heap.size := HB2.out.size
  obtain ⟨w3, hw3⟩ : ∃ w3, w3 = w2.alloc (.cells #[.slice none 0 0] 56) := ⟨_, rfl⟩
  obtain ⟨q, hq⟩ : ∃ q, q = w2.heap.size := ⟨_, rfl⟩
  have W3 := Lib.hid (show Wr w3 q none [] by rw [hw3, hq]; exact Wr.new w2)
  have B3 := Lib.hid (show Below w2.heap.size w2 w3 by rw [hw3]; exact (Below.refl _ _).alloc (Nat.le_refl _) _)
  have HW3 := Lib.hid hw3
  have HQ := Lib.hid hq
  have hq2 : w2.heap.size ≤ q := by omega
  clear hw3 hq
  go_upto_region 6 with fail
  rw [← HW3.out, ← HQ.out]
  go_wp2_with fail
  go_loopw [4, 21] (fun nv i wr => wrR w2 q l nv i wr) (fun nv i _ => l.length - (intOf i).toNat)
  case atStart => exact ⟨0, none, rfl, by simp [vbL], Nat.zero_le _, (fun x hx => by simp at hx), by simpa [vbL] using W3.out, (fun g h => by cases h), B3.out⟩
  case round =>
    obtain ⟨wq, rfl⟩ : ∃ wq : World, wq = wr := ⟨_, rfl⟩
    obtain ⟨j, r, rfl, rfl, hj, hgood, hWr, hr, hbq⟩ := hrel
    have q0 : (0 : Int) ≤ (j : Int) := by omega
    have HBQ := Lib.hid hbq
    have HWR := Lib.hid hWr
    have HGD := Lib.hid hgood
    have HRR := Lib.hid hr
    have hsh := vbL_short hgood
    have hlt : (l.take j).length ≤ 12 := by rw [List.length_take]; omega
    have hvl : (vbL (l.take j)).length ≤ 6144 := by omega
    have FQ := Lib.hid (fun (W : World) (h : Below wq.heap.size wq W) => HBQ.out.trans (h.mono HBQ.out.size))
    clear hgood hWr hr hbq hsh hlt
    obtain ⟨kk, hkk⟩ : ∃ kk, kk = (vbL (l.take j)).length := ⟨_, rfl⟩
    rw [← hkk] at hvl ⊢
    have HKK := Lib.hid hkk
    clear hkk
    by_cases hjl : j < l.length
    · have q1 : (j : Int) < (l.length : Int) := by omega
      obtain ⟨x, hx⟩ : ∃ x, l[j]? = some x := ⟨_, List.getElem?_eq_getElem hjl⟩
      obtain ⟨hxv, ad, rfl, had, hxc⟩ := HV2.out.elem hx
      have nb : ∀ k, k < w.heap.size → wq.heap[k]? = w2.heap[k]? := fun k hk => HBQ.out.block k (by omega)
      have KX := Lib.hid (hxc wq nb)
      have HXN := Lib.hid (fun (W : World) (h : Below wq.heap.size wq W) => (hxv.keep nb).below (h.mono (Nat.le_trans hN2 HBQ.out.size)))
      have hxq : x.At wq.heap.size wq := (hxv.keep nb).mono (Nat.le_trans hN2 HBQ.out.size)
      obtain ⟨w5, hw5⟩ : ∃ bx, bx = wq.alloc (.cells x.cells.toArray 24) := ⟨_, rfl⟩
      obtain ⟨g5, hg5⟩ : ∃ bx, bx = wq.heap.size := ⟨_, rfl⟩
      have bw5 : Below wq.heap.size wq w5 := by rw [hw5]; exact (Below.refl _ _).alloc (Nat.le_refl _) _
      have nw5 : w5.heap[g5]? = some (.cells x.cells.toArray 24 (0, 0)) := by rw [hw5, hg5]; exact heap_alloc_new _ _
      have Kw5 := Lib.hid (rowK nw5)
      have Hw5 := Lib.hid hw5
      have Hg5 := Lib.hid hg5
      have Bw5 := Lib.hid bw5
      have Nw5 := Lib.hid nw5
      clear hw5 hg5 bw5 nw5
      have HX5 := Lib.hid ((hxq.below Bw5.out).mono Bw5.out.size)
      have HTK := Lib.hid (vbL_take hx)
      have HTKl := Lib.hid (show l.take (j + 1) = l.take j ++ [x] by rw [List.take_add_one, hx]; rfl)
      have W5 := Lib.hid (HWR.out.later Bw5.out)
      have HLT := Lib.hid (show q < wq.heap.size ∧ (∀ g, r = some g → g < wq.heap.size) from ⟨HWR.out.lt, HWR.out.rlt⟩)
      obtain ⟨E, hE⟩ : ∃ E, E = x.vE := ⟨_, rfl⟩
      obtain ⟨pc, hpc⟩ : ∃ pc, pc = (x.chk 0 0).2 := ⟨_, rfl⟩
      have CK := rcheck_any x w5.heap.size w5 HX5.out (Nat.le_refl _)
      unfold TwoI at CK
      rw [← hE, ← hpc] at CK
      have HCK := Lib.hid CK
      have HE := Lib.hid hE
      clear hxv hxc had hx nb hxq CK hE hpc
      go_wp2_with (first
        | (with_reducible show wpList _ _ _ _ _ _; refine wpList_load_allW rfl 24 (.tmp 23) rfl _ rfl x.cells _ KX.out Tryz.underlying24 rfl (Tryz.valSize x) ?_)
        | (with_reducible show wpList _ _ _ _ _ _; refine wpList_store_newW rfl 24 (.tmp 6) (.tmp 24) rfl 24 _ x.cells.toArray rfl rfl (Tryz.valSize' x) (by with_unfolding_all exact VT.four x) x.cells_one ?_; rw [← Hw5.out, ← Hg5.out])
        | (with_reducible show wpList _ _ _ _ _ _; refine wpList_load_allW rfl 24 (.tmp 6) rfl ⟨g5,0,none⟩ rfl x.cells _ Kw5.out Tryz.underlying24 rfl (Tryz.valSize x) ?_))
      refine HCK.out.mono ?_
      rintro e w6 ⟨rfl, hb6⟩
      have HB6 := Lib.hid (Bw5.out.trans (hb6.mono Bw5.out.size))
      have K6 := Lib.hid (rowB (v := x) Nw5.out hb6)
      have HX6 := Lib.hid (HX5.out.below hb6)
      have K6row := Lib.hid ((hb6.block g5 (lt_of_rowK Nw5.out)).trans Nw5.out)
      have S56 := Lib.hid hb6.size
      have W6 := Lib.hid (W5.out.later hb6)
      clear hb6 HCK
      by_cases he : E = 0
      · subst he
        have HF := Lib.hid (fine HE.out.symm)
        have hs6 := HB6.out.size
        have hsq := HBQ.out.size
        have WW := Lib.hid (vwrite_any x w.heap.size q r (vbL (l.take j)) w6 (HXN.out w6 HB6.out) HF.out.kin HF.out.dpr (by omega) (by omega) (fun g hg => by have := HRR.out g hg; omega) W6.out (by have := HF.out.vb; rw [← HKK.out]; omega))
        go_wp2_with (first
          | (with_reducible show wpList _ _ _ _ _ _; refine wpList_load_allW rfl 24 (.tmp 6) rfl ⟨g5,0,none⟩ rfl x.cells _ K6.out Tryz.underlying24 rfl (Tryz.valSize x) ?_))
        refine WW.out.mono ?_
        rintro e w7 ⟨rfl, r7, hWr7, hF7, hr7⟩
        have b27 : Below w2.heap.size w2 w7 := fr_new (FQ.out w6 HB6.out) (Nat.le_trans HBQ.out.size HB6.out.size) hF7 hq2 HRR.out
        have h57 : w7.heap[g5]? = some (.cells x.cells.toArray 24 (0, 0)) := by
          have hl := HLT.out
          have hG5 := Hg5.out
          have h56 : w6.heap[g5]? = some (.cells x.cells.toArray 24 (0, 0)) := K6row.out
          exact (hF7.block g5 (lt_of_rowK h56) (by omega) (fun e => by have := hl.2 g5 e.symm; omega)).trans h56
        have K7 := Lib.hid (rowK (v := x) h57)
        have X7 := Lib.hid (show x.At w.heap.size w7 from by
          have h := HXN.out wq (Below.refl _ _)
          exact h.keep fun k hk => (b27.block k (by omega)).trans (HBQ.out.block k (by omega)).symm)
        obtain ⟨m, hm⟩ : ∃ m, m = x.vb.length := ⟨_, rfl⟩
        obtain ⟨XB, hXB⟩ : ∃ XB, XB = str x.vb := ⟨_, rfl⟩
        have hXs : XB.size = m := by rw [hXB, hm]; exact str_sizeX _
        have hm512 : m ≤ 512 := by rw [hm]; exact HF.out.vb
        have CB := Lib.hid (show Calls Tryz.prog 18 #[.agg x.cells.toArray] w7 fun e w' => e = .returned (.string XB) ∧ Below w7.heap.size w7 w' from by
          rw [hXB]; exact rbytes_any x w.heap.size w7 X7.out HF.out.kin (by have := HF.out.vb; omega) (by have := b27.size; omega))
        have R7 := Lib.hid (fun (W : World) (h : Below w7.heap.size w7 W) => show wrR w2 q l (.int .i64 ((kk + m : Nat) : Int)) (.int .i64 ((j + 1 : Nat) : Int)) W from by
          refine ⟨j + 1, r7, rfl, ?_, hjl, ?_, ?_, ?_, b27.trans (h.mono b27.size)⟩
          · rw [HTK.out, List.length_append, ← HKK.out, ← hm]
          · intro z hz
            rw [HTKl.out] at hz
            rcases List.mem_append.1 hz with hz | hz
            · exact HGD.out z hz
            · rw [List.mem_singleton.1 hz]; exact HE.out.symm
          · rw [HTK.out]; exact hWr7.later h
          · intro g hg
            rcases hr7 with rfl | ⟨g', e, h2⟩
            · exact HRR.out g hg
            · rw [hg] at e
              injection e with e
              omega)
        clear hWr7 hF7 hr7 h57 hXB hm WW b27 HF HRR HTK HTKl HXN X7
        go_wp2_with (first
          | (with_reducible show wpList _ _ _ _ _ _; refine wpList_load_allW rfl 24 (.tmp 6) rfl ⟨g5,0,none⟩ rfl x.cells _ K7.out Tryz.underlying24 rfl (Tryz.valSize x) ?_))
        refine CB.out.mono ?_
        rintro e w8 ⟨rfl, hb8⟩
        have R8 := Lib.hid (R7.out w8 hb8)
        clear hb8
        go_wp2_with fail
        exact ⟨R8.out, by simp [intOf]; omega⟩
      · have he2 : (E != 0) = true := by simpa using he
        have RL := Lib.hid (HB2.out.trans ((FQ.out w6 HB6.out).mono hN2))
        go_wp2_with fail
        go_ret
        exact ⟨rfl, RL.out⟩
    · have q1 : ¬ (j : Int) < (l.length : Int) := by omega
      have hjn : j = l.length := by omega
      have LN := Lib.hid (show Calls Tryz.prog 38 #[.pointer (some ⟨q, 0, none⟩)] wq fun e w' => e = .returned (.int .i64 (kk : Int)) ∧ wq = w' from by
        have h := len_any HWR.out
        rw [← HKK.out] at h
        exact h)
      have htl : l.take j = l := List.take_of_length_le (by omega)
      have BY := bytes_any HWR.out (by rw [← HKK.out]; omega)
      rw [htl] at BY
      have HBY := Lib.hid BY
      have HGL := Lib.hid (show ∀ x ∈ l, x.vE = 0 by have h := HGD.out; rw [htl] at h; exact h)
      have HKL := Lib.hid (show kk = (vbL l).length by rw [HKK.out, htl])
      clear BY htl HWR HGD HKK hjn
      go_wp2_with fail
      refine LN.out.mono ?_
      rintro e w7 ⟨rfl, h7⟩
      subst h7
      go_wp2_with fail
      refine HBY.out.mono ?_
      rintro e w8 ⟨ao8, c8, rfl, own8, hb8⟩
      have hS8 := own_Sl own8 rfl
      have RS := Lib.hid (read_sl hS8 (by rw [← HKL.out]; omega))
      have B28 := Lib.hid (FQ.out w8 hb8)
      rw [← HKL.out] at RS ⊢
      clear own8 hS8 hb8 HBY LN
      go_wp2_with fail
      refine RS.out.mono ?_
      rintro e w9 ⟨b, r2, rfl, hR9, hb9, hbl, _⟩
      have B29 := Lib.hid (B28.out.trans (hb9.mono B28.out.size))
      have R9 := Lib.hid hR9
      have HBL := Lib.hid (Nat.le_trans B28.out.size hbl)
      clear hR9 hb9 hbl RS
      obtain ⟨jo, rfl⟩ : ∃ jo : Nat, jo = j := ⟨_, rfl⟩
      obtain ⟨ko, rfl⟩ : ∃ ko : Nat, ko = kk := ⟨_, rfl⟩
      go_wp2_with fail
      go_loopw [47] (fun i wr => rdR w2 b r2 l i wr) (fun i _ => l.length - (intOf i).toNat)
      case atStart => exact ⟨0, rfl, Nat.zero_le _, by simpa [vbL] using R9.out, B29.out⟩
      case round =>
        obtain ⟨wz, rfl⟩ : ∃ wz : World, wz = wr := ⟨_, rfl⟩
        obtain ⟨j, rfl, hj, hRd, hbz⟩ := hrel
        have q0 : (0 : Int) ≤ (j : Int) := by omega
        have HBZ := Lib.hid hbz
        have HRD := Lib.hid hRd
        clear hRd hbz
        by_cases hjl : j < l.length
        · have q1 : (j : Int) < (l.length : Int) := by omega
          obtain ⟨x, hx⟩ : ∃ x, l[j]? = some x := ⟨_, List.getElem?_eq_getElem hjl⟩
          obtain ⟨hxv, ad, rfl, had, hxc⟩ := HV2.out.elem hx
          have nb : ∀ k, k < w.heap.size → wz.heap[k]? = w2.heap[k]? := fun k hk => HBZ.out.block k (by omega)
          have KX := Lib.hid (hxc wz nb)
          have HXV := Lib.hid hxv
          have hsz2 := HBZ.out.size
          have hxq : x.At wz.heap.size wz := (hxv.keep nb).mono (by omega)
          obtain ⟨w7, hw7⟩ : ∃ bx, bx = wz.alloc (.cells x.cells.toArray 24) := ⟨_, rfl⟩
          obtain ⟨g7, hg7⟩ : ∃ bx, bx = wz.heap.size := ⟨_, rfl⟩
          have bw7 : Below wz.heap.size wz w7 := by rw [hw7]; exact (Below.refl _ _).alloc (Nat.le_refl _) _
          have nw7 : w7.heap[g7]? = some (.cells x.cells.toArray 24 (0, 0)) := by rw [hw7, hg7]; exact heap_alloc_new _ _
          have Kw7 := Lib.hid (rowK nw7)
          have Hw7 := Lib.hid hw7
          have Hg7 := Lib.hid hg7
          have Bw7 := Lib.hid bw7
          have Nw7 := Lib.hid nw7
          clear hw7 hg7 bw7 nw7
          have HX7 := Lib.hid ((hxq.below Bw7.out).mono Bw7.out.size)
          have R7 := Lib.hid (HRD.out.below (B := 0) Bw7.out)
          have HVE := Lib.hid (HGL.out x (List.mem_of_getElem? hx))
          have HF := Lib.hid (fine HVE.out)
          have HTK := Lib.hid (vbL_take hx)
          have hdr : (vbL l).drop (vbL (l.take j)).length = x.vb ++ vbL (l.drop (j + 1)) := by
            have e1 : l = l.take j ++ (x :: l.drop (j + 1)) := by
              have h := List.take_append_drop j l
              rw [List.drop_eq_getElem_cons hjl, (List.getElem?_eq_some_iff.1 hx).2] at h
              exact h.symm
            have e2 : vbL l = vbL (l.take j) ++ (x.vb ++ vbL (l.drop (j + 1))) := by
              conv => lhs; rw [e1]
              rw [vbL_app, vbL]
            rw [e2, List.drop_left' rfl]
          obtain ⟨kk, hkk⟩ : ∃ kk, kk = (vbL (l.take j)).length := ⟨_, rfl⟩
          rw [← hkk] at hdr R7
          have AT := Lib.hid (at_any R7.out)
          have VR := vread_any R7.out (by rw [← HKL.out]; omega)
          rw [rdV_fwd HX7.out.num HVE.out hdr] at VR
          have HVR := Lib.hid VR
          obtain ⟨m, hm⟩ : ∃ m, m = x.vb.length := ⟨_, rfl⟩
          have hkb : kk + m ≤ 6144 := by
            have h := vbL_len l (j + 1)
            rw [HTK.out, List.length_append, ← hkk, ← hm, ← HKL.out] at h
            omega
          have HKK := Lib.hid hkk
          have HM := Lib.hid hm
          have HLB := Lib.hid R7.out.lt
          clear hxv hxc had nb hxq hdr hkk VR hx hm
          go_wp2_with (first
            | (with_reducible show wpList _ _ _ _ _ _; refine wpList_load_allW rfl 24 (.tmp 49) rfl _ rfl x.cells _ KX.out Tryz.underlying24 rfl (Tryz.valSize x) ?_)
            | (with_reducible show wpList _ _ _ _ _ _; refine wpList_store_newW rfl 24 (.tmp 11) (.tmp 50) rfl 24 _ x.cells.toArray rfl rfl (Tryz.valSize' x) (by with_unfolding_all exact VT.four x) x.cells_one ?_; rw [← Hw7.out, ← Hg7.out]))
          refine AT.out.mono ?_
          rintro e w8 ⟨rfl, h8⟩
          subst h8
          go_wp2_with fail
          refine HVR.out.mono ?_
          rintro e w8 ⟨U, rfl, hUz, hUa, _, hR8, hF8⟩
          dsimp only at hUz hR8
          obtain ⟨w9', hw9'⟩ : ∃ bx, bx = w8.alloc (.cells U.cells.toArray 24) := ⟨_, rfl⟩
          obtain ⟨g9, hg9⟩ : ∃ bx, bx = w8.heap.size := ⟨_, rfl⟩
          have bw9' : Below w8.heap.size w8 w9' := by rw [hw9']; exact (Below.refl _ _).alloc (Nat.le_refl _) _
          have nw9' : w9'.heap[g9]? = some (.cells U.cells.toArray 24 (0, 0)) := by rw [hw9', hg9]; exact heap_alloc_new _ _
          have Kw9' := Lib.hid (rowK nw9')
          have Hw9' := Lib.hid hw9'
          have Hg9 := Lib.hid hg9
          have Bw9' := Lib.hid bw9'
          have Nw9' := Lib.hid nw9'
          clear hw9' hg9 bw9' nw9'
          rw [← HM.out] at hR8
          have b2z := HBZ.out.trans (Bw7.out.mono HBZ.out.size)
          have hs7 := Nat.le_trans HBZ.out.size Bw7.out.size
          have b28 : Below w2.heap.size w2 w8 := fr_new b2z hs7 hF8 HBL.out (fun g hg => by cases hg)
          have R9' := Lib.hid (hR8.below (B := 0) Bw9'.out)
          have B2 := Lib.hid (b28.trans (Bw9'.out.mono b28.size))
          have hG7 := Hg7.out
          have hbz2 := HRD.out.lt
          have h78 : w8.heap[g7]? = some (.cells x.cells.toArray 24 (0, 0)) := (hF8.block g7 (lt_of_rowK Nw7.out) (by omega) (by simp)).trans Nw7.out
          have N79 := Lib.hid ((Bw9'.out.block g7 (lt_of_rowK h78)).trans h78)
          have KX9 := Lib.hid (fun (W : World) (h : Below w9'.heap.size w9' W) => rowB (v := x) N79.out h)
          have KU := Lib.hid (fun (W : World) (h : Below w9'.heap.size w9' W) => rowB (v := U) Nw9'.out h)
          have HXW := Lib.hid (show x.At w.heap.size w2 from HXV.out)
          have HX9 := Lib.hid (fun (W : World) (h : Below w9'.heap.size w9' W) => show x.At w.heap.size W from by
            have h1 := B2.out.trans (h.mono B2.out.size)
            exact (HXW.out).keep fun k hk => (h1.block k (by omega)))
          have HU9 := Lib.hid (fun (W : World) (h : Below w9'.heap.size w9' W) => (hUa.below (Bw9'.out.trans (h.mono Bw9'.out.size))).mono Bw9'.out.size)
          have CS := Lib.hid (fun (W : World) (h : Below w9'.heap.size w9' W) => show Calls Tryz.prog 19 #[.agg U.cells.toArray, .agg x.cells.toArray] W fun e w' => e = .returned (.bool true) ∧ Below W.heap.size W w' from by
            have h1 := vsame_any U x (by rw [← nz_dpr, hUz, nz_dpr]; exact HF.out.dpr) w9'.heap.size W (HU9.out W h) ((HX9.out W h).mono (by have := B2.out.size; omega)) h.size
            have hc : U.cmp x = 0 := by rw [← nz_cmpL U, hUz, nz_cmpL]; exact cmp_self x HF.out.kin
            rw [hc] at h1
            exact h1)
          obtain ⟨XB, hXB⟩ : ∃ XB, XB = str x.vb := ⟨_, rfl⟩
          have hXs : XB.size = m := by rw [hXB, HM.out]; exact str_sizeX _
          have CB := Lib.hid (fun (W : World) (h : Below w9'.heap.size w9' W) => show Calls Tryz.prog 18 #[.agg x.cells.toArray] W fun e w' => e = .returned (.string XB) ∧ Below W.heap.size W w' from by
            rw [hXB]; exact rbytes_any x w.heap.size W (HX9.out W h) HF.out.kin (by have := HF.out.vb; omega) (by have := B2.out.size; have := h.size; omega))
          have CA := Lib.hid (fun (W : World) (h : Below w9'.heap.size w9' W) => show Calls Tryz.prog 40 #[.pointer (some ⟨b, 0, none⟩)] W fun e w' => e = .returned (.int .i64 ((kk + m : Nat) : Int)) ∧ Below W.heap.size W w' from (at_any (R9'.out.below (B := 0) h)).mono fun e w' h => ⟨h.1, by rw [← h.2]; exact Below.refl _ _⟩)
          have RN := Lib.hid (fun (W : World) (h : Below w9'.heap.size w9' W) => show rdR w2 b r2 l (.int .i64 ((j + 1 : Nat) : Int)) W from ⟨j + 1, rfl, hjl, by rw [HTK.out, List.length_append, ← HKK.out, ← HM.out]; exact R9'.out.below (B := 0) h, B2.out.trans (h.mono B2.out.size)⟩)
          clear hUz hUa hR8 hF8 b2z b28 h78 hXB HVR AT hG7 hbz2 hs7
          go_upto_region 24 with (first
            | (with_reducible show wpList _ _ _ _ _ _; refine wpList_store_newW rfl 24 (.tmp 13) (.tmp 54) rfl 24 _ U.cells.toArray rfl rfl (Tryz.valSize' U) (by with_unfolding_all exact VT.four U) U.cells_one ?_; rw [← Hw9'.out, ← Hg9.out]))
          refine wp_region_quiet_in (fun w' => Below w9'.heap.size w9' w') (by kernel_rfl) (by kernel_rfl) (below_drewG (Below.refl w9'.heap.size w9') 1) ?_
          refine wpQuiet_loadG (by kernel_rfl) 24 (.tmp 13) rfl ⟨g9, 0, none⟩ rfl U.cells _ (fun w' hC => KU.out w' hC) Tryz.underlying24 rfl (SZ.out U) ?_
          simp only [Act.put, List.setIfInBounds_toArray, List.set_cons_zero, List.set_cons_succ, List.getElem_toArray, List.getElem_cons_zero, List.getElem_cons_succ]
          refine wpQuiet_loadG (by kernel_rfl) 24 (.tmp 11) rfl ⟨g7, 0, none⟩ rfl x.cells _ (fun w' hC => KX9.out w' hC) Tryz.underlying24 rfl (SZ.out x) ?_
          simp only [Act.put, List.setIfInBounds_toArray, List.set_cons_zero, List.set_cons_succ, List.getElem_toArray, List.getElem_cons_zero, List.getElem_cons_succ]
          refine wpQuiet_callG (f := 19) (xs := #[.tmp 55, .tmp 56]) #[.agg U.cells.toArray, .agg x.cells.toArray] (.bool true) (by kernel_rfl) rfl Tryz.func19 (by kernel_rfl) (by kernel_rfl) (by simp [Act.eval]) (fun W hW => (CS.out W hW).mono fun e w' h => ⟨h.1, Below.trans hW (h.2.mono hW.size)⟩) ?_
          simp only [Act.put, List.setIfInBounds_toArray, List.set_cons_zero, List.set_cons_succ, List.getElem_toArray, List.getElem_cons_zero, List.getElem_cons_succ]
          refine wpQuiet_runG (v := .bool false) (by kernel_rfl) (fun w' hC => by go_simp) ?_
          simp only [Act.put, List.setIfInBounds_toArray, List.set_cons_zero, List.set_cons_succ, List.getElem_toArray, List.getElem_cons_zero, List.getElem_cons_succ]
          refine wpQuiet_runG (v := .bool false) (by kernel_rfl) (fun w' hC => by rfl) ?_
          simp only [Act.put, List.setIfInBounds_toArray, List.set_cons_zero, List.set_cons_succ, List.getElem_toArray, List.getElem_cons_zero, List.getElem_cons_succ]
          refine wpQuiet_runG (v := .pointer (some ⟨b, 0, none⟩)) (by kernel_rfl) (fun w' hC => by rfl) ?_
          simp only [Act.put, List.setIfInBounds_toArray, List.set_cons_zero, List.set_cons_succ, List.getElem_toArray, List.getElem_cons_zero, List.getElem_cons_succ]
          refine wpQuiet_callG (f := 40) (xs := #[.tmp 60]) #[.pointer (some ⟨b, 0, none⟩)] (.int .i64 ((kk + m : Nat) : Int)) (by kernel_rfl) rfl Tryz.func40 (by kernel_rfl) (by kernel_rfl) (by simp [Act.eval]) (fun W hW => (CA.out W hW).mono fun e w' h => ⟨h.1, Below.trans hW (h.2.mono hW.size)⟩) ?_
          simp only [Act.put, List.setIfInBounds_toArray, List.set_cons_zero, List.set_cons_succ, List.getElem_toArray, List.getElem_cons_zero, List.getElem_cons_succ]
          refine wpQuiet_runG (v := .int .i64 (kk : Int)) (by kernel_rfl) (fun w' hC => by rfl) ?_
          simp only [Act.put, List.setIfInBounds_toArray, List.set_cons_zero, List.set_cons_succ, List.getElem_toArray, List.getElem_cons_zero, List.getElem_cons_succ]
          refine wpQuiet_runG (v := .int .i64 (m : Int)) (by kernel_rfl) (fun w' hC => by have e1 : ((kk : Int) + (m : Int)) - (kk : Int) = (m : Int) := (by omega); have e2 : (m : Int) ≤ 9223372036854775807 := (by omega); have e3 : -9223372036854775808 ≤ (m : Int) := (by omega); go_simp; exact IntWalk.i64_in _ ⟨e3, e2⟩) ?_
          simp only [Act.put, List.setIfInBounds_toArray, List.set_cons_zero, List.set_cons_succ, List.getElem_toArray, List.getElem_cons_zero, List.getElem_cons_succ]
          refine wpQuiet_loadG (by kernel_rfl) 24 (.tmp 11) rfl ⟨g7, 0, none⟩ rfl x.cells _ (fun w' hC => KX9.out w' hC) Tryz.underlying24 rfl (SZ.out x) ?_
          simp only [Act.put, List.setIfInBounds_toArray, List.set_cons_zero, List.set_cons_succ, List.getElem_toArray, List.getElem_cons_zero, List.getElem_cons_succ]
          refine wpQuiet_callG (f := 18) (xs := #[.tmp 64]) #[.agg x.cells.toArray] (.string XB) (by kernel_rfl) rfl Tryz.func18 (by kernel_rfl) (by kernel_rfl) (by simp [Act.eval]) (fun W hW => (CB.out W hW).mono fun e w' h => ⟨h.1, Below.trans hW (h.2.mono hW.size)⟩) ?_
          simp only [Act.put, List.setIfInBounds_toArray, List.set_cons_zero, List.set_cons_succ, List.getElem_toArray, List.getElem_cons_zero, List.getElem_cons_succ]
          refine wpQuiet_runG (v := .int .i64 (m : Int)) (by kernel_rfl) (fun w' hC => by go_simp) ?_
          simp only [Act.put, List.setIfInBounds_toArray, List.set_cons_zero, List.set_cons_succ, List.getElem_toArray, List.getElem_cons_zero, List.getElem_cons_succ]
          refine wpQuiet_runG (v := .bool false) (by kernel_rfl) (fun w' hC => by go_simp) ?_
          simp only [Act.put, List.setIfInBounds_toArray, List.set_cons_zero, List.set_cons_succ, List.getElem_toArray, List.getElem_cons_zero, List.getElem_cons_succ]
          refine wpQuiet_runG (v := .bool false) (by kernel_rfl) (fun w' hC => by go_simp) ?_
          simp only [Act.put, List.setIfInBounds_toArray, List.set_cons_zero, List.set_cons_succ, List.getElem_toArray, List.getElem_cons_zero, List.getElem_cons_succ]
          refine wpQuiet_nil ?_
          intro wf hCf
          have RF := Lib.hid (RN.out wf hCf)
          clear hCf
          go_wp2_with fail
          exact ⟨RF.out, by simp [intOf]; omega⟩
        · have q1 : ¬ (j : Int) < (l.length : Int) := by omega
          have htl : l.take j = l := List.take_of_length_le (by omega)
          have EN := end_any HRD.out (by rw [← HKL.out]; omega)
          have hre : rend (vbL l) (vbL (l.take j)).length 0 = 0 := by
            unfold rend rl
            rw [htl, if_pos rfl]
            simp
          rw [hre] at EN
          have HEN := Lib.hid EN
          have FN := Lib.hid (HB2.out.trans (HBZ.out.mono hN2))
          clear EN hre htl
          go_wp2_with fail
          refine HEN.out.mono ?_
          rintro e wy ⟨rfl, nn, hwy⟩
          have FY := Lib.hid (show Below w.heap.size w wy by rw [hwy]; exact below_drewG FN.out nn)
          clear hwy
          go_wp2_with fail
          go_ret
          exact ⟨rfl, FY.out⟩
end Go.Proofs.YthfjahagmfgfeaaGreatDoor.Wi
