/- MarkSpoilt's walk. -/
import Derived.Test.YtgbmkolpdnenlaaSq
import Derived.Test.YtgbmkolpdnenlaaMu
import Derived.Test.YtgbmkolpdnenlaaUl
namespace Go.Proofs.Ytgbmkolpdnenlaa.Dk
open Go Go.RowKit
set_option linter.unusedVariables false
set_option linter.unusedSimpArgs false
/-- The mark that the k-th put leaves. -/
def mkN (L : List (List Nat)) (k : Nat) : MkD := padM k (L.getD (k - 1) [])
/-- The cells of the first k marks. -/
def mksN (L : List (List Nat)) : Nat → List Value
  | 0 => []
  | k + 1 => mksN L k ++ (mkN L (k + 1)).cells
theorem Try.infoMk : (Try.prog.info? 34).map (fun i => (i.zero, i.size, i.bytes)) = some (some (.agg noM.cells.toArray), 7, 56) := by kernel_rfl
theorem ownsRow_keep4 {w w' : World} {base : Nat} {e : TypeId} {size n : Nat} {v : Value} {xs : List Value} (h : w.ownsRow base e size v n xs) (hb : ∀ b, v.ownBlock = some b → b < w.heap.size → w'.heap[b]? = w.heap[b]?) : w'.ownsRow base e size v n xs := by
  refine ⟨h.1, ?_⟩
  rcases h.2 with h0 | ⟨g, cap, cur, rfl, hB, hh, r⟩
  · exact .inl h0
  · exact .inr ⟨g, cap, cur, rfl, hB, (hb g rfl (lt_of_row hh)).trans hh, r⟩
theorem mkN_cells {L : List (List Nat)} {k : Nat} (h : (L.getD (k - 1) []).length ≤ 6) : (mkN L k).cells.length = 7 := by
  unfold mkN padM MkD.cells
  generalize L.getD (k - 1) [] = ws at *
  simp
  omega
theorem mksN_length {L : List (List Nat)} : ∀ {k : Nat}, (∀ j, j < k → (L.getD j []).length ≤ 6) → (mksN L k).length = k * 7
  | 0, _ => rfl
  | k + 1, h => by
    have ih := mksN_length (L := L) (k := k) (fun j hj => h j (by omega))
    unfold mksN
    rw [List.length_append, ih, mkN_cells (h k (by omega))]
    omega
/-- A mark's cells among all of them. -/
theorem mksN_at {L : List (List Nat)} : ∀ {k : Nat}, (∀ j, j < k → (L.getD j []).length ≤ 6) → ∀ {j : Nat}, j < k → ∀ i u, (mkN L (j + 1)).cells[i]? = some u → (mksN L k)[j * 7 + i]? = some u
  | 0, _, _, hj, _, _, _ => by omega
  | k + 1, h, j, hj, i, u, hu => by
    have hl := mksN_length (L := L) (k := k) (fun j hj => h j (by omega))
    have hi : i < 7 := by
      have := (List.getElem?_eq_some_iff.1 hu).1
      rwa [mkN_cells (h j (by omega))] at this
    unfold mksN
    by_cases hjk : j < k
    · have ih := mksN_at (L := L) (k := k) (fun j hj => h j (by omega)) hjk i u hu
      rw [List.getElem?_append_left (by rw [hl]; omega)]
      exact ih
    · obtain rfl : j = k := by omega
      rw [List.getElem?_append_right (by rw [hl]; omega), hl, show j * 7 + i - j * 7 = i by omega]
      exact hu
theorem slot_store_whole {P : Program} {Q : Exit → Act → World → Prop} {o : Oper} {a : Act} {w : World} {K : Act → World → Prop} (ty : TypeId) (x y : Operand) (ho : o.op = .store ty x y)
    (g : Nat) (t : TypeId) (old cells : Array Value) (hx : a.eval x = .pointer (some ⟨g, 0, none⟩)) (hy : a.eval y = .agg cells) (hg : w.heap[g]? = some (.cells old t (0, 0)))
    (hi : (P.info? ty).map (·.size) = some cells.size) (hs : old.size = cells.size) (h1 : cells.all (·.oneCell') = true)
    (h : K (a.put o.dst undef) (w.setRow g cells)) : o.wp P a w K Q := by
  unfold Oper.wp execOp
  simp only [ho, hx, hy, Instr.storeAt, Instr.sureAddr, Sem.run_bind, Sem.run_pure, Result.andThen_ok, run_storeVar_row w g t ty old cells hg hi hs h1]
  exact h
theorem slot_load_all {P : Program} {Q : Exit → Act → World → Prop} {o : Oper} {a : Act} {w : World} {K : Act → World → Prop} (ty : TypeId) (x : Operand) (ho : o.op = .load ty x)
    (p : Addr) (hx : a.eval x = .pointer (some p)) (cs : List Value) (d : TypeDesc) (hc : ∀ j v, cs[j]? = some v → w.cell? (p.add j) = some v)
    (hu : P.underlying ty = some d) (hd : d.isRow = true) (hi : (P.info? ty).map (·.size) = some cs.length)
    (h : K (a.put o.dst (.agg cs.toArray)) w) : o.wp P a w K Q := by
  unfold Oper.wp execOp
  simp only [ho, hx, Instr.loadAt, Instr.sureAddr, Sem.run_bind, Sem.run_pure, Result.andThen_ok, run_loadVar_all w p ty cs d hc hu hd hi]
  exact h
def msF (gm M cap : Nat) (MA MB : MkD) (j : Nat) (v : Value) : Prop := match j with
  | 0 | 1 | 6 | 7 => v = .slice (some ⟨gm, 0, none⟩) (M + 2) cap
  | 2 | 8 => v = .int .i64 ((M + 2 : Nat) : Int)
  | 3 => v = .int .i64 ((M + 1 : Nat) : Int)
  | 9 => v = .int .i64 (M : Int)
  | 4 => v = .pointer (some ⟨gm, (M + 1) * 7, none⟩)
  | 10 => v = .pointer (some ⟨gm, M * 7, none⟩)
  | 5 => v = .agg MA.cells.toArray
  | 11 => v = .agg MB.cells.toArray
  | _ => True
structure MsW (MA MB : MkD) (w0 : World) (l12 l13 l14 l15 : Bool) (v12 v13 : Value) (W : World) : Prop where
  be : Below w0.heap.size w0 W
  a : l12 = true → ∃ b, v12 = .pointer (some ⟨b, 0, none⟩) ∧ w0.heap.size ≤ b ∧ W.heap[b]? = some (.cells (if l14 = true then MA.cells.toArray else noM.cells.toArray) 34 (0, 0))
  b : l13 = true → ∃ b, v13 = .pointer (some ⟨b, 0, none⟩) ∧ w0.heap.size ≤ b ∧ W.heap[b]? = some (.cells (if l15 = true then MB.cells.toArray else noM.cells.toArray) 34 (0, 0))
  ne : l12 = true → l13 = true → v12 ≠ v13
  i14 : l14 = true → l12 = true
  i15 : l15 = true → l13 = true
def msJ (gm M cap : Nat) (MA MB : MkD) (w0 : World) (L : Nat → Bool) (x : Nat → Value) (W : World) : Prop :=
  (∀ j, L j = true → msF gm M cap MA MB j (x j)) ∧ MsW MA MB w0 (L 12) (L 13) (L 14) (L 15) (x 12) (x 13) W
theorem msJ.step {gm M cap : Nat} {MA MB : MkD} {w0 : World} {L : Nat → Bool} {x : Nat → Value} {W : World} (h : msJ gm M cap MA MB w0 L x W) {k : Nat} {v : Value} (hk : k < 12) (hf : msF gm M cap MA MB k v) : msJ gm M cap MA MB w0 (Go.Proofs.Ytgbmkolpdnenlaa.upd L k true) (Go.Proofs.Ytgbmkolpdnenlaa.upd x k v) W := by
  refine ⟨updJ h.1 hf, ?_⟩
  rw [upd_ne _ _ (by omega), upd_ne _ _ (by omega), upd_ne _ _ (by omega), upd_ne _ _ (by omega), upd_ne _ _ (by omega), upd_ne _ _ (by omega)]
  exact h.2
/-- Where the loop stands. -/
structure MsSt (w wr : World) (d g m : Nat) (L : List (List Nat)) (k n : Nat) (y : DS) (v : Value) : Prop where
  E : DiskAt Try.prog wr d g m n y
  calm : Calm y
  n2 : y.s.length = 2
  great : y.great 0 = k
  last : y.lastMark 0 = padM k (if k = 0 then [] else L.getD (k - 1) [])
  h6 : ∀ j, j < k → (L.getD j []).length ≤ 6
  s1 : 1 ≤ k → y.s.getD (k % 2) [] = layM (mkN L k)
  s2 : 2 ≤ k → y.s.getD ((k - 1) % 2) [] = layM (mkN L (k - 1))
  row : wr.ownsRow w.heap.size 34 7 v k (mksN L k)
  off : ∀ b, v.ownBlock = some b → ¬ own3 d g m b
  fu : y.fuse < 0
  n : n ≤ k
  be : Below w.heap.size w wr
def MsRel (w : World) (d g m : Nat) (L : List (List Nat)) (u v : Value) (wr : World) : Prop :=
  ∃ (k n : Nat) (y : DS), u = .int .i64 (k : Int) ∧ k ≤ L.length ∧ MsSt w wr d g m L k n y v
theorem new2_last : (DS.new 2).lastMark 0 = padM 0 [] ∧ (DS.new 2).great 0 = 0 := ⟨by decide +kernel, by decide +kernel⟩
set_option maxRecDepth 100000 in
set_option maxHeartbeats 8000000 in
theorem spoilt_main {w : World} {ao : Option Addr} {c : Nat} {L : List (List Nat)} (hL : NumL w (.slice ao L.length c) L) {q : Nat} (hq : q < 112) {v : UInt8} (hv : v ≠ 0) (hl2 : 2 ≤ L.length) (hl10 : L.length ≤ 10) :
    Calls Try.prog 6 #[.slice ao L.length c, .int .i64 (q : Int), .int .u8 (v.toNat : Int)] w fun e w' => e = .returned (.bool true) ∧ Below w.heap.size w w' := by
  have HL := Lib.hid hL
  have MK := Lib.hid (marks_any w)
  have c1 : ¬ (L.length : Int) < 2 := by omega
  have c2 : ¬ (10 : Int) < (L.length : Int) := by omega
  have c3 : ¬ (q : Int) < 0 := by omega
  have c4 : ¬ (112 : Int) ≤ (q : Int) := by omega
  have hv0 : ¬ v.toNat = 0 := fun e => hv (UInt8.toNat_inj.1 e)
  have c5 : ((v.toNat : Int) == 0) = false := by rw [beq_eq_false_iff_ne]; omega
  have HV := Lib.hid hv
  have HL10 := Lib.hid hl10
  clear hL hv hv0 hl10
  go_enter Try.func6, Try.ntmps6
  go_wp2_with fail
  refine MK.out.mono ?_
  rintro e w1 ⟨rfl, hb1⟩
  have HB1 := Lib.hid hb1
  have N := Lib.hid (new_any 2 (by decide) (by decide) w1)
  clear hb1 MK
  go_wp2_with fail
  refine N.out.mono ?_
  rintro e w2 ⟨d, g, m, rfl, hD2, hb2, hd, hg, hm⟩
  have HO := Lib.hid (show ∀ i, own3 d g m i → w.heap.size ≤ i from fun i e => by have := HB1.out.size; rcases e with e | e | e <;> omega)
  have HB2 := Lib.hid (HB1.out.trans (hb2.mono HB1.out.size))
  have J0 := Lib.hid (show MsRel w d g m L (.int .i64 0) (.slice none 0 0) w2 from ⟨0, 0, DS.new 2, rfl, Nat.zero_le _, ⟨hD2, calm_new 2, rfl, new2_last.2, new2_last.1, (fun j h => by omega), (fun h => by omega), (fun h => by omega), World.ownsRow_nil _ _ _ _, (fun b e => by cases e), (show (-1 : Int) < 0 by decide), Nat.le_refl _, HB2.out⟩⟩)
  clear hD2 hb2 N hd hg hm HB1 HB2 c1 c2 c3 c4 c5
  go_wp2_with fail
  go_loopw [51, 9] (fun u v wr => MsRel w d g m L u v wr) (fun u _ _ => L.length - (intOf u).toNat)
  case atStart => exact J0.out
  case round =>
    obtain ⟨wo, rfl⟩ : ∃ wo : World, wo = wr := ⟨_, rfl⟩
    obtain ⟨k, n, x, rfl, hi, ST⟩ := hrel
    have HST := Lib.hid ST
    clear ST J0
    by_cases hil : k < L.length
    · have hii : (k : Int) < (L.length : Int) := by omega
      obtain ⟨ao', c', e', hc⟩ := HL.out
      injection e' with e1 e2 e3
      subst e1 e3
      obtain ⟨a, rfl, aj, cj, hcell, hU, hsm, hlen⟩ := hc k hil
      obtain ⟨ws, hws⟩ : ∃ ws, ws = L.getD k [] := ⟨_, rfl⟩
      rw [← hws] at hcell hU hsm hlen
      have hcw : wo.cell? (a.add k) = some (.slice aj ws.length cj) := by rw [HST.out.be.cell (World.block_lt_of_cell? w _ hcell)]; exact hcell
      have HU := Lib.hid hU
      have HSM := Lib.hid hsm
      have HWS := Lib.hid hws
      clear hc hcell hU hsm hlen hws e2
      by_cases c6 : (6 : Int) < (ws.length : Int)
      · go_wp2_with fail
        go_ret
        exact ⟨rfl, HST.out.be⟩
      have h6 : ws.length ≤ 6 := by omega
      have HRng := Lib.hid (show 0 + 2 ≤ x.s.length by rw [HST.out.n2]; exact Nat.le_refl 2)
      obtain ⟨hnx, y, hy, hcode, hyc, hys, hyg, hyl, hyf⟩ := put_next (ws := ws) HST.out.calm HRng.out HST.out.great HST.out.last h6 HSM.out (by have := HL10.out; omega) HST.out.fu
      obtain ⟨s, hs⟩ : ∃ s, s = k + 1 := ⟨_, rfl⟩
      rw [← hs] at hnx hy hcode hys hyl hyg
      obtain ⟨mk, hmk⟩ : ∃ mk, mk = padM s ws := ⟨_, rfl⟩
      rw [← hmk] at hnx hy hcode hys hyl
      have hok : mk.Ok := by rw [hmk]; exact padM_ok h6 HSM.out (by have := HL10.out; omega)
      have PU : Calls Try.prog 12 #[.pointer (some ⟨d, 0, none⟩), .int .i64 0, .slice aj ws.length cj] wo fun e w' => e = .returned (.tuple #[.agg mk.cells.toArray, .int .i64 0]) ∧ DiskAt Try.prog w' d g m (n + 1) y ∧ Frm (own3 d g m) wo w' := by
        have h := put_ok HST.out.E (by have := HST.out.n; have := HL10.out; unfold maxLen; omega) (fun i l _ h => by rw [HST.out.calm.S] at h; cases h) 0 HRng.out HST.out.calm.up (HU.out.below HST.out.be (Nat.le_refl _)) HSM.out h6 (by rw [HST.out.great]; have := HL10.out; omega)
        rw [hnx, hcode, ← hy] at h
        exact h
      have PUH := Lib.hid PU
      have HMK := Lib.hid hmk
      have HS := Lib.hid hs
      have HOK := Lib.hid hok
      have H6 := Lib.hid h6
      have HY := Lib.hid (show Calm y ∧ y.s = x.s.set (0 + s % 2) (layM mk) ∧ y.great 0 = s ∧ y.lastMark 0 = mk ∧ y.fuse < 0 from ⟨hyc, hys, hyg, hyl, by rw [hyf]; exact HST.out.fu⟩)
      clear hnx hy hcode hyc hys hyg hyl hyf hmk hok PU h6 hs
      go_wp2_with fail
      refine PUH.out.mono ?_
      rintro e w4 ⟨rfl, hE4, hF4⟩
      have HE4 := Lib.hid hE4
      have HB4 := Lib.hid (HST.out.be.trans (hF4.below (B := w.heap.size) (fun i _ e => HO.out i e) HST.out.be.size))
      have HR4 := Lib.hid (show w4.ownsRow w.heap.size 34 7 _ k (mksN L k) from ownsRow_keep4 HST.out.row (fun b hb hlt => hF4.block b hlt (HST.out.off b hb)))
      obtain ⟨w5, hw5⟩ : ∃ w5, w5 = w4.alloc (.cells mk.cells.toArray 34) := ⟨_, rfl⟩
      obtain ⟨k12, hk12⟩ : ∃ k, k = w4.heap.size := ⟨_, rfl⟩
      have b5 : Below w4.heap.size w4 w5 := by rw [hw5]; exact (Below.refl _ _).alloc (Nat.le_refl _) _
      have HSMk := Lib.hid (show (Try.prog.info? 34).map (·.size) = some mk.cells.toArray.size by rw [List.size_toArray]; exact Try.markSize HOK.out)
      have HS7 := Lib.hid (show (#[Value.int .u64 0, .int .u64 0, .int .u64 0, .int .u64 0, .int .u64 0, .int .u64 0, .int .u64 0] : Array Value).size = mk.cells.toArray.size by have := MkD.cells_length HOK.out; simp [this])
      have hm5 : w5.heap[k12]? = some (.cells mk.cells.toArray 34 (0, 0)) := by rw [hw5, hk12]; exact heap_alloc_new _ _
      obtain ⟨s', m1, m2, m3, m4, m5, m6, hm7⟩ := six_of HOK.out
      rw [hm7] at hm5
      obtain ⟨l0, l1, l2, l3, l4, l5, l6⟩ := seven hm5
      obtain ⟨w6, hw6⟩ : ∃ w6, w6 = w5.alloc (.cells #[.int .u64 (s' : Int), .int .u64 (m1 : Int), .int .u64 (m2 : Int), .int .u64 (m3 : Int), .int .u64 (m4 : Int), .int .u64 (m5 : Int), .int .u64 (m6 : Int)] 34) := ⟨_, rfl⟩
      obtain ⟨kA, hkA⟩ : ∃ k, k = w5.heap.size := ⟨_, rfl⟩
      have b6 : Below w5.heap.size w5 w6 := by rw [hw6]; exact (Below.refl _ _).alloc (Nat.le_refl _) _
      have b46 := b5.trans (b6.mono b5.size)
      have HB6 := Lib.hid (HB4.out.trans (b46.mono HB4.out.size))
      have HE6 := Lib.hid (HE4.out.below b46 (Nat.le_refl _))
      have HR6 := Lib.hid (show w6.ownsRow w.heap.size 34 7 _ k (mksN L k) from ownsRow_keep4 HR4.out (fun b hb hlt => b46.block b hlt))
      have hmA : w6.heap[kA]? = some (.cells mk.cells.toArray 34 (0, 0)) := by rw [hm7, hw6, hkA]; exact heap_alloc_new _ _
      have SRC := Lib.hid (Src.any (size := 7) w6 Try.underlying57 (some ⟨kA, 0, none⟩) 1 1 mk.cells (by rw [MkD.cells_length HOK.out]) (fun e => by cases e) (fun a e j u hu => by
        cases e
        rw [Addr.add_mid, cell_of_row w6 kA (0 + j) _ _ _ hmA, Nat.zero_add]
        simpa using hu) (uv_one (mk.seq :: mk.W)))
      have HW5 := Lib.hid hw5
      have HK12 := Lib.hid hk12
      have HW6 := Lib.hid hw6
      have HKA := Lib.hid hkA
      have HM7 := Lib.hid hm7
      obtain ⟨i0, hi0, hz0, hz1, hz2⟩ := info_parts Try.infoMk
      have HI0 := Lib.hid hi0
      have HZ0 := Lib.hid hz0
      have HZ1 := Lib.hid hz1
      have HZ2 := Lib.hid hz2
      clear hE4 hF4 PUH HB4 HR4 HE4 b5 b6 b46 hw5 hk12 hw6 hkA hi0 hz0 hz1 hz2 hm5 hmA hm7
      go_wp2_with (first
        | (with_reducible show wpList _ _ _ _ _ _; refine wpList_store_new rfl 34 (.tmp 12) (.tmp 62) rfl 34 _ mk.cells.toArray rfl rfl HSMk.out HS7.out mk.cells_one ?_; rw [← HW5.out, ← HK12.out])
        | (at_builtin; rw [← HW6.out, ← HKA.out]; refine wpList_append_own_src _ rfl (.tmp 64) (.tmp 66) 57 57 rfl w.heap.size 34 i0 (.agg noM.cells.toArray) 7 56 Try.underlying57 HI0.out HZ0.out HZ1.out HZ2.out rfl _ k (mksN L k) rfl HR6.out _ 1 mk.cells rfl SRC.out (by have := HL10.out; unfold maxLen; omega) (by have := HL10.out; omega) HB6.out.size ?_))
      intro v' w7 hgr
      have hk10 := HL10.out
      have hmkN : mkN L (k + 1) = mk := by
        rw [HMK.out, HS.out, HWS.out]
        rfl
      have RL := Lib.hid (show MsRel w d g m L (.int .i64 ((k + 1 : Nat) : Int)) v' w7 from ⟨k + 1, n + 1, y, rfl, by omega, ⟨
        HE6.out.keep (hgr.2.1.block d HE6.out.dlt (fun e => HST.out.off d e.symm (.inl rfl))) (hgr.2.1.block g HE6.out.glt (fun e => HST.out.off g e.symm (.inr (.inl rfl)))) (hgr.2.1.block m HE6.out.mlt (fun e => HST.out.off m e.symm (.inr (.inr rfl)))),
        HY.out.1,
        by rw [HY.out.2.1, List.length_set]; exact HST.out.n2,
        HY.out.2.2.1.trans HS.out,
        by rw [HY.out.2.2.2.1, if_neg (by omega), HMK.out, HS.out, HWS.out]; rfl,
        fun j hj => by
          by_cases h : j < k
          · exact HST.out.h6 j h
          · obtain rfl : j = k := by omega
            rw [← HWS.out]
            exact H6.out,
        fun _ => by
          rw [hmkN, HY.out.2.1, HS.out, Nat.zero_add]
          exact getD_set_self (by rw [HST.out.n2]; omega),
        fun h => by
          rw [HY.out.2.1, HS.out, Nat.zero_add, show k + 1 - 1 = k from rfl, getD_set_ne' (by omega)]
          exact HST.out.s1 (by omega),
        by
          show w7.ownsRow _ _ _ _ _ (mksN L k ++ (mkN L (k + 1)).cells)
          rw [hmkN]
          exact hgr.1,
        fun b hb => by
          rcases hgr.2.2 with e | e
          · exact HST.out.off b (e ▸ hb)
          · rw [e] at hb
            cases hb
            have h1 := HE6.out.dlt
            have h2 := HE6.out.glt
            have h3 := HE6.out.mlt
            rintro (e | e | e) <;> omega,
        HY.out.2.2.2.2,
        by have := HST.out.n; omega,
        HB6.out.grown hgr.2.1 HB6.out.size (fun b hb => (HR6.out.lt b hb).1)⟩⟩)
      clear hgr hk10 hmkN HST HU HSM HY HB6 HE6 HR6 SRC
      go_wp2_with fail
      exact ⟨RL.out, by simp [intOf]; omega⟩
    · obtain rfl : k = L.length := by omega
      obtain ⟨M, hM⟩ : ∃ M, L.length = M + 2 := ⟨L.length - 2, by omega⟩
      have HSTx := HST.out
      rcases HSTx.row.2 with ⟨_, e⟩ | ⟨gm, cap, cur, rfl, hgB, hgr, hg1, hg2, hg3, hg4⟩
      · omega
      have cells : ∀ j i u, j < L.length → (mkN L (j + 1)).cells[i]? = some u → wo.cell? ⟨gm, j * 7 + i, none⟩ = some u := by
        intro j i u hj hu
        have hm := mksN_at HSTx.h6 hj i u hu
        have hlt := (List.getElem?_eq_some_iff.1 hm).1
        rw [mksN_length HSTx.h6] at hlt
        rw [← hg4, List.getElem?_take, if_pos (by omega)] at hm
        rw [cell_of_row wo gm (j * 7 + i) _ _ _ hgr, ← Array.getElem?_toList]
        exact hm
      have smallL : ∀ j, j < L.length → ∀ u ∈ L.getD j [], u < 18446744073709551616 := by
        obtain ⟨_, _, _, hc⟩ := HL.out
        intro j hj
        obtain ⟨_, _, _, _, _, _, h, _⟩ := hc j hj
        exact h
      have okA : (mkN L (M + 2)).Ok := padM_ok (HSTx.h6 _ (by omega)) (smallL _ (by omega)) (by have := HL10.out; omega)
      have okB : (mkN L (M + 1)).Ok := padM_ok (HSTx.h6 _ (by omega)) (smallL _ (by omega)) (by have := HL10.out; omega)
      obtain ⟨MA, hMA⟩ : ∃ MA, MA = mkN L (M + 2) := ⟨_, rfl⟩
      obtain ⟨MB, hMB⟩ : ∃ MB, MB = mkN L (M + 1) := ⟨_, rfl⟩
      have sqA : MA.seq = M + 2 := by rw [hMA]; rfl
      have sqB : MB.seq = M + 1 := by rw [hMB]; rfl
      have cA : ∀ i u, MA.cells[i]? = some u → wo.cell? ⟨gm, (M + 1) * 7 + i, none⟩ = some u := fun i u h => cells (M + 1) i u (by omega) (by rw [← hMA]; exact h)
      have cB : ∀ i u, MB.cells[i]? = some u → wo.cell? ⟨gm, M * 7 + i, none⟩ = some u := fun i u h => cells M i u (by omega) (by rw [← hMB]; exact h)
      have s1 : x.s.getD (MA.seq % 2) [] = layM MA := by
        have h := HSTx.s1 (by omega)
        rw [sqA, hMA, ← hM]
        exact h
      have s2 : x.s.getD (MB.seq % 2) [] = layM MB := by
        have h := HSTx.s2 (by omega)
        rw [sqB, hMB, show M + 1 = L.length - 1 by omega]
        exact h
      rw [← hMA] at okA
      rw [← hMB] at okB
      have hp1 := spared_last (v := v) (q := q) HSTx.calm HSTx.n2 okA okB (by omega) (by rw [sqA, sqB]; omega) s1 s2 hq HV.out
      have hp2 := spared_last (v := v) (q := q) HSTx.calm HSTx.n2 okB okA (by omega) (by rw [sqA, sqB]; omega) s2 s1 hq HV.out
      clear cells smallL hMA hMB hgr hg4
      rw [hM]
      go_wp2_with fail
      refine wp_region_slotsJ (by kernel_rfl) (by kernel_rfl) (fun y => ⟨#[Value.slice ao (M + 2) c, Value.int IntKind.i64 (q : Int), Value.int IntKind.u8 (v.toNat : Int), undef, undef, undef, u6, Value.pointer (some ⟨d, 0, none⟩), Value.int IntKind.i64 0, Value.slice (some ⟨gm, 0, none⟩) (M + 2) cap, undef, u11, u12, u13, y 12, y 13, undef, undef, undef, undef, undef, Value.bool true, Value.bool false, Value.slice ao (M + 2) c, Value.int IntKind.i64 ((M + 2 : Nat) : Int), Value.bool (decide (((M + 2 : Nat) : Int) < 2)), Value.bool (decide (((M + 2 : Nat) : Int) < 2)), Value.slice ao (M + 2) c, Value.int IntKind.i64 ((M + 2 : Nat) : Int), Value.bool (decide (10 < ((M + 2 : Nat) : Int))), Value.bool (decide (((M + 2 : Nat) : Int) < 2) || decide (10 < ((M + 2 : Nat) : Int))), Value.bool (decide (((M + 2 : Nat) : Int) < 2) || decide (10 < ((M + 2 : Nat) : Int))), Value.int IntKind.i64 (q : Int), Value.bool (decide ((q : Int) < 0)), Value.bool (decide (((M + 2 : Nat) : Int) < 2) || decide (10 < ((M + 2 : Nat) : Int)) || decide ((q : Int) < 0)), Value.bool (decide (((M + 2 : Nat) : Int) < 2) || decide (10 < ((M + 2 : Nat) : Int)) || decide ((q : Int) < 0)), Value.int IntKind.i64 (q : Int), Value.bool (decide (112 ≤ (q : Int))), Value.bool (decide (((M + 2 : Nat) : Int) < 2) || decide (10 < ((M + 2 : Nat) : Int)) || decide ((q : Int) < 0) || decide (112 ≤ (q : Int))), Value.bool (decide (((M + 2 : Nat) : Int) < 2) || decide (10 < ((M + 2 : Nat) : Int)) || decide ((q : Int) < 0) || decide (112 ≤ (q : Int))), Value.int IntKind.u8 (v.toNat : Int), Value.bool false, Value.bool (decide (((M + 2 : Nat) : Int) < 2) || decide (10 < ((M + 2 : Nat) : Int)) || decide ((q : Int) < 0) || decide (112 ≤ (q : Int))), Value.tuple #[Value.pointer (some ⟨d, 0, none⟩), Value.int IntKind.i64 0], Value.tuple #[Value.pointer (some ⟨d, 0, none⟩), Value.int IntKind.i64 0], Value.pointer (some ⟨d, 0, none⟩), Value.int IntKind.i64 0, Value.pointer (some ⟨d, 0, none⟩), Value.bool false, Value.slice ao (M + 2) c, Value.int IntKind.i64 ((M + 2 : Nat) : Int), Value.int IntKind.i64 ((M + 2 : Nat) : Int), Value.bool false, u53, u54, u55, u56, u57, u58, u59, u60, u61, u62, u63, u64, u65, u66, u67, u68, y 0, y 1, y 2, y 3, y 4, y 5, y 6, y 7, y 8, y 9, y 10, y 11, undef, undef, undef, undef, undef, undef, undef, undef, undef, undef, undef, undef, undef, undef, undef, undef, undef, undef, undef, undef, undef, undef, undef, undef, undef, undef, undef, undef, undef, undef, undef, undef, undef, undef, undef, undef, undef, undef, undef, undef, undef, undef, undef, undef], []⟩) (msJ gm M cap MA MB wo) ?_ ?_ (fun _ => undef) rfl ⟨(fun j h => by cases h), ⟨(Below.refl _ _).drew, (fun h => by cases h), (fun h => by cases h), (fun h => by cases h), (fun h => by cases h), (fun h => by cases h)⟩⟩
      · intro i' o ho L' y wx hd hi' hJ
        match i', ho with
        | 0, ho =>
          obtain rfl := Option.some.inj ho
          exact .inl ⟨rfl, slot_run (v := .slice (some ⟨gm, 0, none⟩) (M + 2) cap) (w' := wx) rfl ⟨_, rfl, hJ.step (by decide) rfl⟩⟩
        | 1, ho =>
          obtain rfl := Option.some.inj ho
          exact .inl ⟨rfl, slot_run (v := .slice (some ⟨gm, 0, none⟩) (M + 2) cap) (w' := wx) rfl ⟨_, rfl, hJ.step (by decide) rfl⟩⟩
        | 2, ho =>
          obtain rfl := Option.some.inj ho
          have y1 : y 1 = .slice (some ⟨gm, 0, none⟩) (M + 2) cap := hJ.1 1 (hd ⟨1, .data⟩ (by simp) rfl)
          refine .inl ⟨rfl, slot_run (v := .int .i64 ((M + 2 : Nat) : Int)) (w' := wx) ?_ ⟨_, rfl, hJ.step (by decide) rfl⟩⟩
          refine runWith (fun z => match z with | .tmp 70 => y 1 | .const c => c | _ => undef) (by kernel_rfl) ?_
          rw [y1]
          go_simp
        | 3, ho =>
          obtain rfl := Option.some.inj ho
          have y2 : y 2 = .int .i64 ((M + 2 : Nat) : Int) := hJ.1 2 (hd ⟨2, .data⟩ (by simp) rfl)
          refine .inl ⟨rfl, slot_run (v := .int .i64 ((M + 1 : Nat) : Int)) (w' := wx) ?_ ⟨_, rfl, hJ.step (by decide) rfl⟩⟩
          refine runWith (fun z => match z with | .tmp 71 => y 2 | .const c => c | _ => undef) (by kernel_rfl) ?_
          rw [y2]
          go_simp
          rw [IntKind.wrap_i64]; omega
        | 4, ho =>
          obtain rfl := Option.some.inj ho
          have y0 : y 0 = .slice (some ⟨gm, 0, none⟩) (M + 2) cap := hJ.1 0 (hd ⟨0, .data⟩ (by simp) rfl)
          have y3 : y 3 = .int .i64 ((M + 1 : Nat) : Int) := hJ.1 3 (hd ⟨3, .data⟩ (by simp) rfl)
          refine .inl ⟨rfl, slot_run (v := .pointer (some ⟨gm, (M + 1) * 7, none⟩)) (w' := wx) ?_ ⟨_, rfl, hJ.step (by decide) rfl⟩⟩
          refine runWith (fun z => match z with | .tmp 69 => y 0 | .tmp 72 => y 3 | .const c => c | _ => undef) (by kernel_rfl) ?_
          rw [y0, y3]
          go_simp
          intro hh; omega
        | 5, ho =>
          obtain rfl := Option.some.inj ho
          have ya : y 4 = .pointer (some ⟨gm, (M + 1) * 7, none⟩) := hJ.1 4 (hd ⟨4, .data⟩ (by simp) rfl)
          exact .inl ⟨rfl, slot_load_all 34 (.tmp 73) rfl _ ya MA.cells _ (fun j u hu => by rw [Addr.add_mid, hJ.2.be.cell (World.block_lt_of_cell? wo _ (cA j u hu))]; exact cA j u hu) Try.underlying34 rfl (Try.markSize okA) ⟨_, rfl, hJ.step (by decide) rfl⟩⟩
        | 6, ho =>
          obtain rfl := Option.some.inj ho
          exact .inl ⟨rfl, slot_run (v := .slice (some ⟨gm, 0, none⟩) (M + 2) cap) (w' := wx) rfl ⟨_, rfl, hJ.step (by decide) rfl⟩⟩
        | 7, ho =>
          obtain rfl := Option.some.inj ho
          exact .inl ⟨rfl, slot_run (v := .slice (some ⟨gm, 0, none⟩) (M + 2) cap) (w' := wx) rfl ⟨_, rfl, hJ.step (by decide) rfl⟩⟩
        | 8, ho =>
          obtain rfl := Option.some.inj ho
          have y7 : y 7 = .slice (some ⟨gm, 0, none⟩) (M + 2) cap := hJ.1 7 (hd ⟨7, .data⟩ (by simp) rfl)
          refine .inl ⟨rfl, slot_run (v := .int .i64 ((M + 2 : Nat) : Int)) (w' := wx) ?_ ⟨_, rfl, hJ.step (by decide) rfl⟩⟩
          refine runWith (fun z => match z with | .tmp 76 => y 7 | .const c => c | _ => undef) (by kernel_rfl) ?_
          rw [y7]
          go_simp
        | 9, ho =>
          obtain rfl := Option.some.inj ho
          have y8 : y 8 = .int .i64 ((M + 2 : Nat) : Int) := hJ.1 8 (hd ⟨8, .data⟩ (by simp) rfl)
          refine .inl ⟨rfl, slot_run (v := .int .i64 (M : Int)) (w' := wx) ?_ ⟨_, rfl, hJ.step (by decide) rfl⟩⟩
          refine runWith (fun z => match z with | .tmp 77 => y 8 | .const c => c | _ => undef) (by kernel_rfl) ?_
          rw [y8]
          go_simp
          rw [IntKind.wrap_i64]; omega
        | 10, ho =>
          obtain rfl := Option.some.inj ho
          have y6 : y 6 = .slice (some ⟨gm, 0, none⟩) (M + 2) cap := hJ.1 6 (hd ⟨6, .data⟩ (by simp) rfl)
          have y9 : y 9 = .int .i64 (M : Int) := hJ.1 9 (hd ⟨9, .data⟩ (by simp) rfl)
          refine .inl ⟨rfl, slot_run (v := .pointer (some ⟨gm, M * 7, none⟩)) (w' := wx) ?_ ⟨_, rfl, hJ.step (by decide) rfl⟩⟩
          refine runWith (fun z => match z with | .tmp 75 => y 6 | .tmp 78 => y 9 | .const c => c | _ => undef) (by kernel_rfl) ?_
          rw [y6, y9]
          go_simp
          intro hh; omega
        | 11, ho =>
          obtain rfl := Option.some.inj ho
          have ya : y 10 = .pointer (some ⟨gm, M * 7, none⟩) := hJ.1 10 (hd ⟨10, .data⟩ (by simp) rfl)
          exact .inl ⟨rfl, slot_load_all 34 (.tmp 79) rfl _ ya MB.cells _ (fun j u hu => by rw [Addr.add_mid, hJ.2.be.cell (World.block_lt_of_cell? wo _ (cB j u hu))]; exact cB j u hu) Try.underlying34 rfl (Try.markSize okB) ⟨_, rfl, hJ.step (by decide) rfl⟩⟩
        | 12, ho =>
          obtain rfl := Option.some.inj ho
          have W := hJ.2
          rw [hi'] at W
          have hb : Below wx.heap.size wx (wx.alloc (.cells noM.cells.toArray 34 (0, 0))) := (Below.refl _ _).alloc (Nat.le_refl _) _
          refine .inl ⟨rfl, slot_run (v := .pointer (some ⟨wx.heap.size, 0, none⟩)) (w' := wx.alloc (.cells noM.cells.toArray 34 (0, 0))) ?_ ⟨_, rfl, updJ hJ.1 trivial, ?_⟩⟩
          · rw [← Try.zeroP7]; kernel_rfl
          · rw [upd_self, upd_self, upd_ne _ _ (by decide), upd_ne _ _ (by decide), upd_ne _ _ (by decide), upd_ne _ _ (by decide)]
            have h14 : L' 14 = false := by
              cases h : L' 14 with
              | false => rfl
              | true => have := W.i14 h; cases this
            refine ⟨W.be.trans (hb.mono W.be.size), fun _ => ⟨_, rfl, W.be.size, by rw [h14, if_neg (by decide)]; exact heap_alloc_new _ _⟩, fun h13 => ?_, fun _ h13 => ?_, fun _ => rfl, W.i15⟩
            · obtain ⟨b, e, hb1, hr⟩ := W.b h13
              exact ⟨b, e, hb1, (hb.block b (lt_of_row hr)).trans hr⟩
            · obtain ⟨b, e, hb1, hr⟩ := W.b h13
              rw [e]
              intro e2
              have := lt_of_row hr
              injection e2 with e3
              injection e3 with e4
              injection e4 with e5
              omega
        | 13, ho =>
          obtain rfl := Option.some.inj ho
          have W := hJ.2
          rw [hi'] at W
          have hb : Below wx.heap.size wx (wx.alloc (.cells noM.cells.toArray 34 (0, 0))) := (Below.refl _ _).alloc (Nat.le_refl _) _
          refine .inl ⟨rfl, slot_run (v := .pointer (some ⟨wx.heap.size, 0, none⟩)) (w' := wx.alloc (.cells noM.cells.toArray 34 (0, 0))) ?_ ⟨_, rfl, updJ hJ.1 trivial, ?_⟩⟩
          · rw [← Try.zeroP7]; kernel_rfl
          · rw [upd_self, upd_self, upd_ne _ _ (by decide), upd_ne _ _ (by decide), upd_ne _ _ (by decide), upd_ne _ _ (by decide)]
            have h15 : L' 15 = false := by
              cases h : L' 15 with
              | false => rfl
              | true => have := W.i15 h; cases this
            refine ⟨W.be.trans (hb.mono W.be.size), fun h12 => ?_, fun _ => ⟨_, rfl, W.be.size, by rw [h15, if_neg (by decide)]; exact heap_alloc_new _ _⟩, fun h12 _ => ?_, W.i14, fun _ => rfl⟩
            · obtain ⟨b, e, hb1, hr⟩ := W.a h12
              exact ⟨b, e, hb1, (hb.block b (lt_of_row hr)).trans hr⟩
            · obtain ⟨b, e, hb1, hr⟩ := W.a h12
              rw [e]
              intro e2
              have := lt_of_row hr
              injection e2 with e3
              injection e3 with e4
              injection e4 with e5
              omega
        | 14, ho =>
          obtain rfl := Option.some.inj ho
          have W := hJ.2
          have y5 : y 5 = .agg MA.cells.toArray := hJ.1 5 (hd ⟨5, .data⟩ (by simp) rfl)
          have h12 : L' 12 = true := hd ⟨12, .data⟩ (by simp) rfl
          rw [hi'] at W
          obtain ⟨b, e, hb1, hr⟩ := W.a h12
          rw [if_neg (by decide)] at hr
          refine .inl ⟨rfl, slot_store_whole 34 (.tmp 14) (.tmp 74) rfl b 34 noM.cells.toArray MA.cells.toArray e y5 hr (by rw [List.size_toArray]; exact Try.markSize okA) (by rw [List.size_toArray, List.size_toArray, MkD.cells_length okA, MkD.cells_length noM_ok]) MA.cells_one ⟨undef, rfl, updJ hJ.1 trivial, ?_⟩⟩
          rw [upd_self, upd_ne _ _ (by decide), upd_ne _ _ (by decide), upd_ne _ _ (by decide), upd_ne _ _ (by decide), upd_ne _ _ (by decide)]
          refine ⟨below_setRow W.be hb1 _, fun _ => ⟨b, e, hb1, by rw [if_pos rfl]; exact setRow_heap wx b _ _ _ _ hr⟩, fun h13 => ?_, W.ne, fun _ => h12, W.i15⟩
          obtain ⟨b', e', hb', hr'⟩ := W.b h13
          have hne : b' ≠ b := fun hh => W.ne h12 h13 (by rw [e, e', hh])
          exact ⟨b', e', hb', (setRow_other wx b b' _ hne).trans hr'⟩
        | 15, ho =>
          obtain rfl := Option.some.inj ho
          have W := hJ.2
          have y11 : y 11 = .agg MB.cells.toArray := hJ.1 11 (hd ⟨11, .data⟩ (by simp) rfl)
          have h13 : L' 13 = true := hd ⟨13, .data⟩ (by simp) rfl
          rw [hi'] at W
          obtain ⟨b, e, hb1, hr⟩ := W.b h13
          rw [if_neg (by decide)] at hr
          refine .inl ⟨rfl, slot_store_whole 34 (.tmp 15) (.tmp 80) rfl b 34 noM.cells.toArray MB.cells.toArray e y11 hr (by rw [List.size_toArray]; exact Try.markSize okB) (by rw [List.size_toArray, List.size_toArray, MkD.cells_length okB, MkD.cells_length noM_ok]) MB.cells_one ⟨undef, rfl, updJ hJ.1 trivial, ?_⟩⟩
          rw [upd_self, upd_ne _ _ (by decide), upd_ne _ _ (by decide), upd_ne _ _ (by decide), upd_ne _ _ (by decide), upd_ne _ _ (by decide)]
          refine ⟨below_setRow W.be hb1 _, fun h12 => ?_, fun _ => ⟨b, e, hb1, by rw [if_pos rfl]; exact setRow_heap wx b _ _ _ _ hr⟩, W.ne, W.i14, fun _ => h13⟩
          obtain ⟨b', e', hb', hr'⟩ := W.a h12
          have hne : b' ≠ b := fun hh => W.ne h12 h13 (by rw [e, e', hh])
          exact ⟨b', e', hb', (setRow_other wx b b' _ hne).trans hr'⟩
        | n' + 16, ho => simp at ho
      · intro L' y wq hall hJ
        have W := hJ.2
        rw [hall 12 (by decide), hall 13 (by decide), hall 14 (by decide), hall 15 (by decide)] at W
        obtain ⟨kl, el, hkl, rl⟩ := W.a rfl
        obtain ⟨kb, eb, hkb, rb⟩ := W.b rfl
        rw [if_pos rfl] at rl rb
        have hne : kl ≠ kb := fun hh => W.ne rfl rfl (by rw [el, eb, hh])
        have HEQ := Lib.hid (HSTx.E.below W.be (Nat.le_refl _))
        have HBQ := Lib.hid (HSTx.be.trans (W.be.mono HSTx.be.size))
        have HKL := Lib.hid rl
        have HKB := Lib.hid rb
        have HP1 := Lib.hid hp1
        have HP2 := Lib.hid hp2
        have HC := Lib.hid HSTx.calm
        have HN2 := Lib.hid HSTx.n2
        have HOA := Lib.hid okA
        have HOB := Lib.hid okB
        have HQ := Lib.hid hq
        have HS1 := Lib.hid s1
        have HS2 := Lib.hid s2
        have SQ := Lib.hid (And.intro sqA sqB)
        have HXO := Lib.hid (show (¬ own3 d g m kl ∧ ¬ own3 d g m kb) from ⟨fun e => by have h1 := HSTx.E.dlt; have h2 := HSTx.E.glt; have h3 := HSTx.E.mlt; rcases e with e | e | e <;> omega, fun e => by have h1 := HSTx.E.dlt; have h2 := HSTx.E.glt; have h3 := HSTx.E.mlt; rcases e with e | e | e <;> omega⟩)
        have CL := Lib.hid (clone_any HEQ.out (by rw [HN2.out]; decide))
        rw [el, eb]
        generalize y 0 = v0
        generalize y 1 = v1
        generalize y 2 = v2
        generalize y 3 = v3
        generalize y 4 = v4
        generalize y 5 = v5
        generalize y 6 = v6
        generalize y 7 = v7
        generalize y 8 = v8
        generalize y 9 = v9
        generalize y 10 = v10
        generalize y 11 = v11
        clear W hJ hall el eb rl rb hp1 hp2 HSTx okA okB cA cB s1 s2 HST
        go_wp2_with fail
        refine CL.out.mono ?_
        rintro e wc ⟨d', g', m', c', T', rfl, hDc, hd', hg', hm', hbc⟩
        have HD0 := Lib.hid (HEQ.out.below hbc (Nat.le_refl _))
        have HDc := Lib.hid hDc
        have HBC := Lib.hid (HBQ.out.trans (hbc.mono HBQ.out.size))
        have rl := (hbc.block kl (lt_of_row HKL.out)).trans HKL.out
        have rb := (hbc.block kb (lt_of_row HKB.out)).trans HKB.out
        have HKL1 := Lib.hid rl
        have HKB1 := Lib.hid rb
        have HAP := Lib.hid (show ∀ i, own3 d' g' m' i → ¬ own3 d g m i ∧ i ≠ kl ∧ i ≠ kb ∧ w.heap.size ≤ i from fun i e => by
          have h1 := HEQ.out.dlt
          have h2 := HEQ.out.glt
          have h3 := HEQ.out.mlt
          have h4 := lt_of_row HKL.out
          have h5 := lt_of_row HKB.out
          have h6 := HBQ.out.size
          refine ⟨fun e2 => ?_, ?_, ?_, ?_⟩
          · rcases e with e | e | e <;> rcases e2 with e2 | e2 | e2 <;> omega
          all_goals (rcases e with e | e | e <;> omega))
        have p0 : wc.cell? ⟨kl, 0, none⟩ = some (.int .u64 ((M + 2 : Nat) : Int)) := by rw [cell_of_row wc kl 0 _ _ _ rl]; show some (Value.int .u64 ((MA.seq : Nat) : Int)) = _; rw [sqA]
        have sp := spoil_ok HD0.out (k := (M + 2) % 2) (q := q) (by rw [HN2.out]; omega) (by have := HQ.out; omega) v
        rw [show (((M + 2) % 2 : Nat) : Int) = (M : Int) % 2 by omega] at sp
        have SP := Lib.hid sp
        clear hDc hbc rl rb HEQ HBQ HKL HKB CL sp
        go_wp2_with fail
        refine SP.out.mono ?_
        rintro e w19 ⟨rfl, hD19, hF19⟩
        have HD19 := Lib.hid hD19
        have HC19 := Lib.hid (HDc.out.frame hF19 (HAP.out d' (.inl rfl)).1 (HAP.out g' (.inr (.inl rfl))).1 (HAP.out m' (.inr (.inr rfl))).1)
        have HB19 := Lib.hid (HBC.out.trans (hF19.below (fun i _ e => HO.out i e) HBC.out.size))
        have rl := (hF19.block kl (lt_of_row HKL1.out) HXO.out.1).trans HKL1.out
        have rb := (hF19.block kb (lt_of_row HKB1.out) HXO.out.2).trans HKB1.out
        have HKL2 := Lib.hid rl
        have HKB2 := Lib.hid rb
        have p1 : w19.cell? ⟨kb, 0, none⟩ = some (.int .u64 ((M + 1 : Nat) : Int)) := by rw [cell_of_row w19 kb 0 _ _ _ rb]; show some (Value.int .u64 ((MB.seq : Nat) : Int)) = _; rw [SQ.out.2]
        have sp := spoil_ok HC19.out (k := (M + 1) % 2) (q := q) (by show (M + 1) % 2 < x.s.length; rw [HN2.out]; omega) (by have := HQ.out; omega) v
        rw [show (((M + 1) % 2 : Nat) : Int) = ((M : Int) + 1) % 2 by omega] at sp
        have SP2 := Lib.hid sp
        clear hD19 hF19 rl rb SP sp HD0 HDc HBC HKL1 HKB1 p0
        go_wp2_with fail
        refine SP2.out.mono ?_
        rintro e w20 ⟨rfl, hD20, hF20⟩
        have na : ∀ i, own3 d g m i → ¬ own3 d' g' m' i := fun i h e => (HAP.out i e).1 h
        have HC20 := Lib.hid hD20
        have HD20 := Lib.hid (HD19.out.frame hF20 (na d (.inl rfl)) (na g (.inr (.inl rfl))) (na m (.inr (.inr rfl))))
        have HB20 := Lib.hid (HB19.out.trans (hF20.below (fun i _ e => (HAP.out i e).2.2.2) HB19.out.size))
        have HKL3 := Lib.hid ((hF20.block kl (lt_of_row HKL2.out) (fun e => (HAP.out kl e).2.1 rfl)).trans HKL2.out)
        have HKB3 := Lib.hid ((hF20.block kb (lt_of_row HKB2.out) (fun e => (HAP.out kb e).2.2.1 rfl)).trans HKB2.out)
        have hlB : (x.spoil ((M + 2) % 2) q v).lastMark 0 = MB := by have h := HP2.out; rw [SQ.out.1] at h; exact h
        have hlA : ((x.copied c' T').spoil ((M + 1) % 2) q v).lastMark 0 = MA := by
          have h := spared_last (v := v) (q := q) (HC.out.copied c' T') (x := x.copied c' T') HN2.out HOA.out HOB.out (by rw [SQ.out.1]; omega) (by rw [SQ.out.1, SQ.out.2]; omega) HS1.out HS2.out HQ.out HV.out
          rw [SQ.out.2] at h
          exact h
        have n2a : 0 + 2 ≤ (x.spoil ((M + 2) % 2) q v).s.length := by unfold DS.spoil; simp [HN2.out]
        have n2b : 0 + 2 ≤ ((x.copied c' T').spoil ((M + 1) % 2) q v).s.length := by unfold DS.spoil DS.copied; simp [HN2.out]
        have g1 := get_ok HD20.out 0 n2a HC.out.up
        rw [hlB, if_pos (by rw [SQ.out.2]; omega), if_pos (by rw [SQ.out.2]; omega)] at g1
        have G1 := Lib.hid (show Calls Try.prog 16 #[.pointer (some ⟨d, 0, none⟩), .int .i64 0] w20 fun e w' => e = .returned (.tuple #[.agg MB.cells.toArray, .int .i64 0]) ∧ Below w20.heap.size w20 w' from g1)
        have HLA := Lib.hid hlA
        have HNB := Lib.hid n2b
        clear hD20 hF20 na hlB hlA n2a n2b g1 SP2 HC19 HD19 HB19 HKL2 HKB2 p1
        go_wp2_with fail
        refine G1.out.mono ?_
        rintro e w21 ⟨rfl, hb21⟩
        obtain ⟨k17, hk17⟩ : ∃ k, k = w21.heap.size := ⟨_, rfl⟩
        obtain ⟨w22, hw22⟩ : ∃ w22, w22 = w21.alloc (.cells MB.cells.toArray 34) := ⟨_, rfl⟩
        have b22 : Below w21.heap.size w21 w22 := by rw [hw22]; exact (Below.refl _ _).alloc (Nat.le_refl _) _
        have r22 : w22.heap[k17]? = some (.cells MB.cells.toArray 34 (0, 0)) := by rw [hw22, hk17]; exact heap_alloc_new _ _
        have b2022 := hb21.trans (b22.mono hb21.size)
        have HC22 := Lib.hid (HC20.out.below b2022 (Nat.le_refl _))
        have HB22 := Lib.hid (HB20.out.trans (b2022.mono HB20.out.size))
        have HKL4 := Lib.hid ((b2022.block kl (lt_of_row HKL3.out)).trans HKL3.out)
        have HKB4 := Lib.hid ((b2022.block kb (lt_of_row HKB3.out)).trans HKB3.out)
        have HR22 := Lib.hid r22
        have HSB := Lib.hid (show (Try.prog.info? 34).map (·.size) = some MB.cells.toArray.size by rw [List.size_toArray]; exact Try.markSize HOB.out)
        have HB7 := Lib.hid (show (#[Value.int .u64 0, .int .u64 0, .int .u64 0, .int .u64 0, .int .u64 0, .int .u64 0, .int .u64 0] : Array Value).size = MB.cells.toArray.size by have := MkD.cells_length HOB.out; simp [this])
        have HW22 := Lib.hid hw22
        have HK17 := Lib.hid hk17
        have g2 := get_ok HC22.out 0 HNB.out HC.out.up
        rw [HLA.out, if_pos (by rw [SQ.out.1]; omega), if_pos (by rw [SQ.out.1]; omega)] at g2
        have G2 := Lib.hid (show Calls Try.prog 16 #[.pointer (some ⟨d', 0, none⟩), .int .i64 0] w22 fun e w' => e = .returned (.tuple #[.agg MA.cells.toArray, .int .i64 0]) ∧ Below w22.heap.size w22 w' from g2)
        clear hb21 hk17 hw22 b22 r22 b2022 g2 G1 HC20 HD20 HB20 HKL3 HKB3
        go_wp2_with (with_reducible show wpList _ _ _ _ _ _; refine wpList_store_new rfl 34 (.tmp 17) (.tmp 102) rfl 34 _ MB.cells.toArray rfl rfl HSB.out HB7.out MB.cells_one ?_; rw [← HW22.out, ← HK17.out])
        refine G2.out.mono ?_
        rintro e w23 ⟨rfl, hb23⟩
        obtain ⟨k19, hk19⟩ : ∃ k, k = w23.heap.size := ⟨_, rfl⟩
        obtain ⟨w24, hw24⟩ : ∃ w24, w24 = w23.alloc (.cells MA.cells.toArray 34) := ⟨_, rfl⟩
        have b24 : Below w23.heap.size w23 w24 := by rw [hw24]; exact (Below.refl _ _).alloc (Nat.le_refl _) _
        have r24 : w24.heap[k19]? = some (.cells MA.cells.toArray 34 (0, 0)) := by rw [hw24, hk19]; exact heap_alloc_new _ _
        have b2224 := hb23.trans (b24.mono hb23.size)
        have HB24 := Lib.hid (HB22.out.trans (b2224.mono HB22.out.size))
        have rl := (b2224.block kl (lt_of_row HKL4.out)).trans HKL4.out
        have rb := (b2224.block kb (lt_of_row HKB4.out)).trans HKB4.out
        have rg := (b2224.block k17 (lt_of_row HR22.out)).trans HR22.out
        have HSA := Lib.hid (show (Try.prog.info? 34).map (·.size) = some MA.cells.toArray.size by rw [List.size_toArray]; exact Try.markSize HOA.out)
        have HA7 := Lib.hid (show (#[Value.int .u64 0, .int .u64 0, .int .u64 0, .int .u64 0, .int .u64 0, .int .u64 0, .int .u64 0] : Array Value).size = MA.cells.toArray.size by have := MkD.cells_length HOA.out; simp [this])
        obtain ⟨sA, a1, a2, a3, a4, a5, a6, eA⟩ := six_of HOA.out
        obtain ⟨sB, b1, b2, b3, b4, b5, b6, eB⟩ := six_of HOB.out
        have rl' := rl
        have rb' := rb
        have rg' := rg
        have r24' := r24
        rw [eA] at rl' r24'
        rw [eB] at rb' rg'
        obtain ⟨x0, x1, x2, x3, x4, x5, x6⟩ := seven rl'
        obtain ⟨y0, y1, y2, y3, y4, y5, y6⟩ := seven rb'
        obtain ⟨z0, z1, z2, z3, z4, z5, z6⟩ := seven rg'
        obtain ⟨t0, t1, t2, t3, t4, t5, t6⟩ := seven r24'
        have EQA : (Op.equalIn 9999 32 (.agg #[.int .u64 (a1 : Int), .int .u64 (a2 : Int), .int .u64 (a3 : Int), .int .u64 (a4 : Int), .int .u64 (a5 : Int), .int .u64 (a6 : Int)]) (.agg #[.int .u64 (a1 : Int), .int .u64 (a2 : Int), .int .u64 (a3 : Int), .int .u64 (a4 : Int), .int .u64 (a5 : Int), .int .u64 (a6 : Int)])).run Try.prog w24 = .ok true w24 := by
          have h := equal_six [a1, a2, a3, a4, a5, a6] [a1, a2, a3, a4, a5, a6] rfl rfl w24
          rw [decide_eq_true rfl] at h
          exact h
        have EQB : (Op.equalIn 9999 32 (.agg #[.int .u64 (b1 : Int), .int .u64 (b2 : Int), .int .u64 (b3 : Int), .int .u64 (b4 : Int), .int .u64 (b5 : Int), .int .u64 (b6 : Int)]) (.agg #[.int .u64 (b1 : Int), .int .u64 (b2 : Int), .int .u64 (b3 : Int), .int .u64 (b4 : Int), .int .u64 (b5 : Int), .int .u64 (b6 : Int)])).run Try.prog w24 = .ok true w24 := by
          have h := equal_six [b1, b2, b3, b4, b5, b6] [b1, b2, b3, b4, b5, b6] rfl rfl w24
          rw [decide_eq_true rfl] at h
          exact h
        have HW24 := Lib.hid hw24
        have HK19 := Lib.hid hk19
        have EA := Lib.hid eA
        have EB := Lib.hid eB
        clear hb23 hk19 hw24 b24 r24 b2224 G2 HC22 HB22 HKL4 HKB4 HR22 rl rb rg rl' rb' rg' r24' eA eB
        go_wp2_with (with_reducible show wpList _ _ _ _ _ _; refine wpList_store_new rfl 34 (.tmp 19) (.tmp 107) rfl 34 _ MA.cells.toArray rfl rfl HSA.out HA7.out MA.cells_one ?_; rw [← HW24.out, ← HK19.out])
        go_ret
        exact ⟨rfl, HB24.out⟩
set_option maxRecDepth 100000 in
set_option maxHeartbeats 2000000 in
theorem spoilt_any {w : World} {ao : Option Addr} {c : Nat} {L : List (List Nat)} (hL : NumL w (.slice ao L.length c) L) (at_ : Int) (v : UInt8) :
    Calls Try.prog 6 #[.slice ao L.length c, .int .i64 at_, .int .u8 (v.toNat : Int)] w fun e w' => e = .returned (.bool true) ∧ Below w.heap.size w w' := by
  have MK := Lib.hid (marks_any w)
  have HL := Lib.hid hL
  clear hL
  by_cases c1 : (L.length : Int) < 2
  · go_enter Try.func6, Try.ntmps6
    go_wp2_with fail
    refine MK.out.mono ?_
    rintro e w1 ⟨rfl, hb1⟩
    have HB1 := Lib.hid hb1
    clear hb1 MK
    go_wp2_with fail
    go_ret
    exact ⟨rfl, HB1.out⟩
  by_cases c2 : (10 : Int) < (L.length : Int)
  · go_enter Try.func6, Try.ntmps6
    go_wp2_with fail
    refine MK.out.mono ?_
    rintro e w1 ⟨rfl, hb1⟩
    have HB1 := Lib.hid hb1
    clear hb1 MK
    go_wp2_with fail
    go_ret
    exact ⟨rfl, HB1.out⟩
  by_cases c3 : at_ < 0
  · go_enter Try.func6, Try.ntmps6
    go_wp2_with fail
    refine MK.out.mono ?_
    rintro e w1 ⟨rfl, hb1⟩
    have HB1 := Lib.hid hb1
    clear hb1 MK
    go_wp2_with fail
    go_ret
    exact ⟨rfl, HB1.out⟩
  by_cases c4 : (112 : Int) ≤ at_
  · go_enter Try.func6, Try.ntmps6
    go_wp2_with fail
    refine MK.out.mono ?_
    rintro e w1 ⟨rfl, hb1⟩
    have HB1 := Lib.hid hb1
    clear hb1 MK
    go_wp2_with fail
    go_ret
    exact ⟨rfl, HB1.out⟩
  by_cases hv : v = 0
  · subst hv
    rw [show (((0 : UInt8).toNat : Nat) : Int) = 0 from rfl]
    go_enter Try.func6, Try.ntmps6
    go_wp2_with fail
    refine MK.out.mono ?_
    rintro e w1 ⟨rfl, hb1⟩
    have HB1 := Lib.hid hb1
    clear hb1 MK
    go_wp2_with fail
    go_ret
    exact ⟨rfl, HB1.out⟩
  obtain ⟨q, hq⟩ : ∃ q : Nat, at_ = (q : Int) := ⟨at_.toNat, by omega⟩
  subst hq
  exact spoilt_main HL.out (by omega) hv (by omega) (by omega)
end Go.Proofs.Ytgbmkolpdnenlaa.Dk
