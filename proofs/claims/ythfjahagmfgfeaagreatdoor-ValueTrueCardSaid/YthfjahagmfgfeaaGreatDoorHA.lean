/- The walk of ValueTrue. -/
import Derived.Test.YthfjahagmfgfeaaGreatDoorHC
import Derived.Test.YthfjahagmfgfeaaGreatDoorG2
namespace Go.Proofs.YthfjahagmfgfeaaGreatDoor.Wi
open Go Go.RowKit
set_option linter.unusedVariables false
set_option linter.unusedSimpArgs false
theorem setCells_block (b : Nat) : ∀ (vs : List Value) (o : Nat) (w : World) (cur : Array Value) (t : TypeId) (fr : Nat × Nat), w.heap[b]? = some (.cells cur t fr) → ∃ cur', (w.setCells b o vs).heap[b]? = some (.cells cur' t fr) ∧ cur'.size = cur.size
  | [], _, w, cur, t, fr, h => ⟨cur, h, rfl⟩
  | v :: vs, o, w, cur, t, fr, h => by
    rw [World.setCells]
    obtain ⟨c2, h2, e2⟩ := setCells_block b vs (o + 1) (w.setCell ⟨b, o, none⟩ v) _ t fr (Go.Joins.block_setCell (i := o) h v)
    exact ⟨c2, h2, by rw [e2]; simp⟩
theorem setCells_other (b k : Nat) (hk : k ≠ b) : ∀ (vs : List Value) (o : Nat) (w : World), (w.setCells b o vs).heap[k]? = w.heap[k]?
  | [], _, w => rfl
  | v :: vs, o, w => by rw [World.setCells, setCells_other b k hk vs]; exact Below.heap_setCell w ⟨b, o, none⟩ v k hk
theorem below_setCells {B : Nat} {w0 : World} (b : Nat) (hb : B ≤ b) : ∀ (vs : List Value) (o : Nat) (w : World), Below B w0 w → Below B w0 (w.setCells b o vs)
  | [], _, w, h => h
  | v :: vs, o, w, h => by rw [World.setCells]; exact below_setCells b hb vs (o + 1) _ (h.setCell (p := ⟨b, o, none⟩) hb v)
/-- A row of values of which one is written anew is a row still. -/
theorem own_setCells {B g n c : Nat} {w : World} {cs : List Value} (h : w.ownsRow B 24 4 (.slice (some ⟨g, 0, none⟩) n c) n cs) (o : Nat) (vs : List Value) : ∃ cs', (w.setCells g o vs).ownsRow B 24 4 (.slice (some ⟨g, 0, none⟩) n c) n cs' := by
  rcases h.2 with ⟨e1, _⟩ | ⟨g', cap, cur, e1, hB, hr, hc, hm, hs, _⟩
  · cases e1
  · injection e1 with e1 e2 e3
    injection e1 with e1
    injection e1 with e1 _ _
    subst e1 e3
    obtain ⟨cur', h1, h2⟩ := setCells_block g vs o w cur _ _ hr
    refine ⟨cur'.toList.take (n * 4), ?_, Or.inr ⟨g, c, cur', rfl, hB, h1, hc, hm, by rw [h2, hs], rfl⟩⟩
    rw [List.length_take, Array.length_toList, h2, hs, Nat.min_eq_left]
    exact Nat.mul_le_mul_right 4 hc
theorem own_there {B g n c : Nat} {w : World} {cs : List Value} (h : w.ownsRow B 24 4 (.slice (some ⟨g, 0, none⟩) n c) n cs) {j : Nat} (hj : j < n) : w.there g (j * 4) 4 := by
  intro i hi
  have hl := h.1
  rcases h.2 with ⟨e1, _⟩ | ⟨g', cap, cur, e1, hB, hr, hc, hm, hs, _⟩
  · cases e1
  · injection e1 with e1 e2 e3
    injection e1 with e1
    injection e1 with e1 _ _
    subst e1 e3
    refine ⟨?_, ?_⟩
    · rw [cell_of_rowW _ g (j * 4 + i) _ _ _ hr]
      have : j * 4 + i < cur.size := by rw [hs]; omega
      simp [this]
    · simp [World.frozen?, hr]
/-- What is there, round by round: the clone as it was made, its row with whatever values. -/
structure ClnLoop (w4 : World) (g : Nat) (X : VT) (ao : Option Addr) (n c : Nat) (wr : World) : Prop where
  low : Below w4.heap.size w4 wr
  size : g < wr.heap.size
  row : wr.heap[g]? = some (.cells X.cells.toArray 24 (0, 0))
  own : ∃ cs, wr.ownsRow w4.heap.size 24 4 (.slice ao n c) n cs
  ne : some g ≠ (Value.slice ao n c).ownBlock
def clRelT (w4 : World) (g : Nat) (X : VT) (ao : Option Addr) (n c : Nat) (i : Value) (wr : World) : Prop := ∃ j : Nat, i = .int .i64 (j : Int) ∧ j ≤ n ∧ ClnLoop w4 g X ao n c wr
def stP : List (Nat × Nat) := [(5, 4), (5, 3), (4, 1), (4, 2), (1, 0)]
theorem st_upd {L : Nat → Bool} (h : ∀ p ∈ stP, L p.1 = true → L p.2 = true) {k : Nat} (hk : ∀ p ∈ stP, p.1 = k → L p.2 = true) : ∀ p ∈ stP, upd L k true p.1 = true → upd L k true p.2 = true := by
  intro p hp h1
  by_cases h2 : p.2 = k
  · rw [h2, upd_self]
  · rw [upd_ne _ _ h2]
    by_cases h3 : p.1 = k
    · exact hk p hp h3
    · rw [upd_ne _ _ h3] at h1
      exact h p hp h1
theorem st_five {L : Nat → Bool} (h : ∀ p ∈ stP, L p.1 = true → L p.2 = true) {i : Nat} (hi : L i = false) (hc : i = 0 ∨ i = 1 ∨ i = 2 ∨ i = 3 ∨ i = 4) : L 5 = false := by
  cases h5 : L 5 with
  | false => rfl
  | true =>
    have h4 := h (5, 4) (by simp [stP]) h5
    have h3 := h (5, 3) (by simp [stP]) h5
    have h1 := h (4, 1) (by simp [stP]) h4
    have h2 := h (4, 2) (by simp [stP]) h4
    have h0 := h (1, 0) (by simp [stP]) h1
    dsimp only at h4 h3 h2 h1 h0
    rcases hc with rfl | rfl | rfl | rfl | rfl <;> simp_all
def ZT : VT := txV [111, 116, 104, 101, 114]
theorem ZT_any (w : World) : Calls Tryz.prog 33 #[.string ⟨#[111, 116, 104, 101, 114]⟩] w (AnsV ZT w) := vtext_any [111, 116, 104, 101, 114] w
def ZO : VT := ofV 7
theorem ZO_any (w : World) : Calls Tryz.prog 35 #[.int .i64 7] w (AnsV ZO w) := vof_any 7 w
set_option maxHeartbeats 8000000 in
set_option maxRecDepth 100000 in
theorem true_any (v : VT) (w : World) (hv : v.At w.heap.size w) (hg : GB w.heap.size w) : Calls Tryz.prog 9 #[.agg v.cells.toArray] w fun e w' => e = .returned (.bool true) ∧ Below w.heap.size w w' := by
  obtain ⟨w1, hw1⟩ : ∃ bx, bx = w.alloc (.cells v.cells.toArray 24) := ⟨_, rfl⟩
  obtain ⟨g, hg⟩ : ∃ bx, bx = w.heap.size := ⟨_, rfl⟩
  have bw1 : Below w.heap.size w w1 := by rw [hw1]; exact (Below.refl _ _).alloc (Nat.le_refl _) _
  have nw1 : w1.heap[g]? = some (.cells v.cells.toArray 24 (0, 0)) := by rw [hw1, hg]; exact heap_alloc_new _ _
  have Kw1 := Lib.hid (rowK nw1)
  have Hw1 := Lib.hid hw1
  have Hg := Lib.hid hg
  have Bw1 := Lib.hid bw1
  have Nw1 := Lib.hid nw1
  clear hw1 hg bw1 nw1
  have HV := Lib.hid ((hv.below Bw1.out).mono Bw1.out.size)
  have G := Lib.hid ((hg.on Bw1.out).base Bw1.out.size)
  have CH := Lib.hid (holds_any w1 G.out)
  clear hv hg
  go_enter Tryz.func9, Tryz.ntmps9
  go_upto_region 1 with fail
  rw [← Hw1.out, ← Hg.out]
  go_wp2_with fail
  refine CH.out.mono ?_
  rintro e w2 ⟨rfl, hb2⟩
  have Kw2 := Lib.hid (rowB (v := v) Nw1.out hb2)
  have hl4 := v.cells_len
  have CF := Lib.hid (fits_one2 ((HV.out.below hb2).mono hb2.size))
  go_wp2_with (first | (with_reducible show wpList _ _ _ _ _ _; refine wpList_load_allW rfl 24 (.tmp 1) rfl ⟨g,0,none⟩ rfl v.cells _ Kw2.out Tryz.underlying24 rfl (Tryz.valSize v) ?_))
  clear hl4
  rw [bs1]
  refine CF.out.mono ?_
  rintro e w3 ⟨⟨b, rfl, hnest⟩, hb3⟩
  have HNEST := Lib.hid hnest
  clear hnest
  have hb13 := hb2.trans (hb3.mono hb2.size)
  have RL3 := Lib.hid (Bw1.out.trans (hb13.mono Bw1.out.size))
  cases b
  · clear hb2 hb3 hb13
    go_wp2_with fail
    go_ret
    exact ⟨rfl, RL3.out⟩
  have Kw3 := Lib.hid (rowB (v := v) Nw1.out hb13)
  have CG := Lib.hid (good_any v w1.heap.size w3 (HV.out.below hb13) hb13.size)
  obtain ⟨E, hE⟩ : ∃ E, E = decide (v.vE = 0) := ⟨_, rfl⟩
  rw [← hE] at CG
  have HE := Lib.hid hE
  clear hE
  go_wp2_with (first | (with_reducible show wpList _ _ _ _ _ _; refine wpList_loadWanted (by with_unfolding_all rfl) 24 (.tmp 1) rfl ⟨g,0,none⟩ (by with_unfolding_all rfl) v.cells _ Kw3.out Tryz.underlying24 rfl (Tryz.valSize v) ?_))
  refine CG.out.mono ?_
  rintro e w4 ⟨rfl, hb4⟩
  have hb14 := hb13.trans (hb4.mono hb13.size)
  have RL4 := Lib.hid (Bw1.out.trans (hb14.mono Bw1.out.size))
  cases E
  · clear hb2 hb3 hb13 hb4 hb14
    go_wp2_with fail
    go_ret
    exact ⟨rfl, RL4.out⟩
  have HVE := Lib.hid (of_decide_eq_true HE.out.symm)
  have HF := Lib.hid (fine HVE.out)
  have G4 := Lib.hid ((G.out.on hb14).base hb14.size)
  have HV4 := Lib.hid ((HV.out.below hb14).mono hb14.size)
  have Kw4 := Lib.hid (fun (W : World) (h : Below w4.heap.size w4 W) => rowB (v := v) Nw1.out (hb14.trans (h.mono hb14.size)))
  have N4 := Lib.hid (fun (W : World) (h : Below w4.heap.size w4 W) => ((hb14.trans (h.mono hb14.size)).block g (lt_of_rowK Nw1.out)).trans Nw1.out)
  obtain ⟨T, hT⟩ : ∃ T, T = v.tru := ⟨_, rfl⟩
  have HT := Lib.hid hT
  clear hb2 hb3 hb13 hb4 hb14 CF CG CH G HE RL3 HV hT
  go_upto_region 5 with fail
  go_cut [3] (fun s wx => s = .bool T ∧ wx = w4)
  case first =>
    obtain ⟨vk, vn, vs, va, vc, vl⟩ := v
    obtain ⟨hk, hn, hs, hl⟩ := HV4.out.fit
    have nw1 := N4.out w4 (Below.refl _ _)
    have c0 : w4.cell? ⟨g, 0, none⟩ = some (.int .i64 vk) := by have h := rowK nw1 0 _ rfl; rwa [Addr.add_mid] at h
    have c1 : w4.cell? ⟨g, 1, none⟩ = some (.int .i64 vn) := by have h := rowK nw1 1 _ rfl; rwa [Addr.add_mid] at h
    have c2 : w4.cell? ⟨g, 2, none⟩ = some (.string (str vs)) := by have h := rowK nw1 2 _ rfl; rwa [Addr.add_mid] at h
    have c3 : w4.cell? ⟨g, 3, none⟩ = some (.slice va vl.length vc) := by have h := rowK nw1 3 _ rfl; rwa [Addr.add_mid] at h
    have hsz := str_sizeX vs
    obtain ⟨S, hS⟩ : ∃ S, S = str vs := ⟨_, rfl⟩
    rw [← hS] at c2 hsz
    obtain ⟨lm, hlm⟩ : ∃ lm, lm = vl.length := ⟨_, rfl⟩
    rw [← hlm] at c3
    have hkin := HF.out.kin
    rw [VT.Kin] at hkin
    have hkk := hkin.1
    have HTT := Lib.hid HT.out
    clear nw1 hkin HVE HF G4 HV4 Kw4 N4 HT hS
    rcases hkk with h0 | h0 | h0 | h0
    · subst h0
      obtain rfl : T = false := by rw [HTT.out]; simp [VT.tru]
      go_wp2_with fail
      go_meet
      exact ⟨rfl, rfl⟩
    · subst h0
      by_cases h1 : vn = 0
      · subst h1
        obtain rfl : T = false := by rw [HTT.out]; simp [VT.tru]
        go_wp2_with fail
        go_meet
        exact ⟨rfl, rfl⟩
      · obtain rfl : T = true := by rw [HTT.out]; simp [VT.tru, h1]
        have h1' : (vn != 0) = true := by simpa using h1
        clear HTT
        go_wp2_with fail
        go_meet
        exact ⟨rfl, rfl⟩
    · subst h0
      by_cases h1 : vs.length = 0
      · have hs0 : vs = [] := List.eq_nil_of_length_eq_zero h1
        obtain rfl : T = false := by rw [HTT.out]; simp [VT.tru, hs0]
        have h2 : S.size = 0 := by omega
        clear HTT h1 hs0 hsz hlm hl hs
        go_wp2_with fail
        go_meet
        exact ⟨rfl, rfl⟩
      · have hs0 : ¬ vs = [] := fun e => h1 (by rw [e]; rfl)
        obtain rfl : T = true := by rw [HTT.out]; simp [VT.tru, hs0]
        have h2 : 0 < S.size := by omega
        have h3 : (0 : Int) < (S.size : Int) := by omega
        clear HTT h1 hs0 hsz hlm hl hs
        go_wp2_with fail
        go_meet
        exact ⟨rfl, rfl⟩
    · subst h0
      by_cases h1 : vl.length = 0
      · have h2 : lm = 0 := by omega
        obtain rfl : T = false := by rw [HTT.out]; simp [VT.tru, h1]
        subst h2
        clear HTT h1 hlm hl
        go_wp2_with fail
        go_meet
        exact ⟨rfl, rfl⟩
      · have h2 : 0 < lm := by omega
        have h3i : (0 : Int) < (lm : Int) := by omega
        obtain rfl : T = true := by
          rw [HTT.out]
          have h3 : 0 < vl.length := by omega
          simp only [VT.tru, show ¬ (3 : Int) = 0 by omega, show ¬ (3 : Int) = 1 by omega, show ¬ (3 : Int) = 2 by omega, if_false, if_true]
          exact decide_eq_true h3
        clear HTT h1 hlm hl
        go_wp2_with fail
        go_meet
        exact ⟨rfl, rfl⟩
  case rest =>
    obtain ⟨rfl, hwc⟩ := hcut
    have hwc' := hwc.symm
    subst hwc'
    clear hwc
    obtain ⟨va, vl, vc, hv3, hvl, hvn⟩ : ∃ va vl vc, v.cells[3]? = some (.slice va vl.length vc) ∧ (VT.mk 3 0 [] va vc vl).At w4.heap.size w4 ∧ (VT.mk 3 0 [] va vc vl).nest ≤ 12 := by
      have h1 := HV4.out
      have h2 := HNEST.out (by trivial)
      obtain ⟨vk, vn, vs, va, vc, vl⟩ := v
      refine ⟨va, vl, vc, rfl, ?_, ?_⟩
      · rw [VT.At] at h1 ⊢
        exact ⟨by omega, by omega, by simp, h1.2.2.2⟩
      · rw [VT.nest] at h2 ⊢
        exact h2
    obtain ⟨vm, hvm⟩ : ∃ vm, vm = vl.length := ⟨_, rfl⟩
    have CL := fun (W : World) (h : Below w4.heap.size w4 W) => vlist_any va vc vl w4.heap.size W (hvl.below h) (nest_dpr _ 65536 (by omega)) h.size
    rw [← hvm] at hv3 CL
    have HCL := Lib.hid CL
    have HV3 := Lib.hid hv3
    have HVL := Lib.hid hvl
    clear hv3 hvl hvn hvm CL
    have CC := Lib.hid (vclone_any v HF.out.dpr w4.heap.size w4 HV4.out (Nat.le_refl _))
    have Kw4a := Lib.hid (Kw4.out w4 (Below.refl _ _))
    go_wp2_with (first | (with_reducible show wpList _ _ _ _ _ _; refine wpList_load_allW rfl 24 (.tmp 1) rfl ⟨g,0,none⟩ rfl v.cells _ Kw4a.out Tryz.underlying24 rfl (Tryz.valSize v) ?_))
    refine CC.out.mono ?_
    rintro e w5 ⟨ao, c, Y, rfl, hC, hb5⟩
    obtain ⟨X, hX⟩ : ∃ X, X = cln v ao c Y := ⟨_, rfl⟩
    have x3 : X.cells[3]? = some (.slice ao Y.length c) := by rw [hX]; rfl
    have own5 := hC.own
    obtain ⟨n, hn⟩ : ∃ n, n = Y.length := ⟨_, rfl⟩
    rw [← hn] at x3 own5
    have hnb : n ≤ 140737488355328 := by have := hC.big; omega
    rw [← hX]
    obtain ⟨w6, hw6⟩ : ∃ bx, bx = w5.alloc (.cells X.cells.toArray 24) := ⟨_, rfl⟩
    obtain ⟨g6, hg6⟩ : ∃ bx, bx = w5.heap.size := ⟨_, rfl⟩
    have bw6 : Below w5.heap.size w5 w6 := by rw [hw6]; exact (Below.refl _ _).alloc (Nat.le_refl _) _
    have nw6 : w6.heap[g6]? = some (.cells X.cells.toArray 24 (0, 0)) := by rw [hw6, hg6]; exact heap_alloc_new _ _
    have Kw6 := Lib.hid (rowK nw6)
    have Hw6 := Lib.hid hw6
    have Hg6 := Lib.hid hg6
    have Bw6 := Lib.hid bw6
    have Nw6 := Lib.hid nw6
    clear hw6 hg6 bw6 nw6
    have L0 := Lib.hid (show ClnLoop w4 g6 X ao n c w6 from by
      refine ⟨hb5.trans (Bw6.out.mono hb5.size), lt_of_rowK Nw6.out, Nw6.out, ⟨_, own_belowK own5 Bw6.out⟩, ?_⟩
      intro e
      have h1 := own5.lt g6 e.symm
      have h2 := Hg6.out
      omega)
    have X3 := Lib.hid x3
    have HB46 := Lib.hid (hb5.trans (Bw6.out.mono hb5.size))
    clear hC hX x3 own5 hn hb5 CC
    have f6 : w6.cell? ⟨g6, 3, none⟩ = some (.slice ao n c) := by have h := Kw6.out 3 _ X3.out; rwa [Addr.add_mid] at h
    go_wp2_with (first
      | (with_reducible show wpList _ _ _ _ _ _; refine wpList_store_newW rfl 24 (.tmp 4) (.tmp 50) rfl 24 _ X.cells.toArray rfl rfl (Tryz.valSize' X) (by with_unfolding_all exact VT.four X) X.cells_one ?_; rw [← Hw6.out, ← Hg6.out]))
    go_loopw [54] (fun i wr => clRelT w4 g6 X ao n c i wr) (fun i _ => n - (intOf i).toNat)
    case atStart => exact ⟨0, rfl, Nat.zero_le _, L0.out⟩
    case round =>
      obtain ⟨wq, rfl⟩ : ∃ wq : World, wq = wr := ⟨_, rfl⟩
      obtain ⟨j, rfl, hj, hL⟩ := hrel
      have q0 : (0 : Int) ≤ (j : Int) := by omega
      by_cases hjn : j < n
      · have q1 : (j : Int) < (n : Int) := by omega
        have R3 := Lib.hid (hL.row)
        have f57 : wq.cell? ⟨g6, 3, none⟩ = some (.slice ao n c) := by rw [cell_of_rowW wq g6 3 _ _ _ R3.out]; simpa using X3.out
        obtain ⟨cs, own⟩ := hL.own
        obtain ⟨gr, rfl⟩ : ∃ gr, ao = some ⟨gr, 0, none⟩ := by
          rcases own.2 with ⟨_, h0⟩ | ⟨g', cap, cur, e1, _⟩
          · omega
          · injection e1 with e1 _ _
            exact ⟨g', e1⟩
        have hgr := own.lt gr rfl
        have HGR := Lib.hid hgr
        have OWN := Lib.hid own
        have HLL := Lib.hid hL
        have TH := Lib.hid (own_there own hjn)
        have SZ := Lib.hid (Tryz.valSize' ZT)
        go_upto_region 10 with fail
        refine wp_region_slotsG (by kernel_rfl) (by kernel_rfl)
          (fun y => ⟨#[Value.agg v.cells.toArray, Value.pointer (some { block := g, off := 0 }), Value.bool false, Value.bool T, Value.pointer (some { block := g6, off := 0 }), Value.int IntKind.i64 ↑j, undef, undef, u8, u9, u10, u11, u12, u13, u14, u15, u16, u17, u18, u19, u20, u21, u22, u23, u24, u25, u26, u27, u28, u29, u30, u31, u32, u33, u34, u35, u36, u37, u38, u39, u40, u41, u42, u43, u44, u45, u46, u47, u48, Value.agg v.cells.toArray, Value.agg X.cells.toArray, Value.pointer (some { block := g6, off := 3 }), Value.slice (some ⟨gr, 0, none⟩) n c, Value.int IntKind.i64 ↑n, Value.int IntKind.i64 ↑j, Value.bool true, Value.int IntKind.i64 ↑j, y 0, y 1, y 2, y 3, y 4, u62, u63, u64, u65, u66, u67, undef, undef, u70, u71, u72, u73, u74, u75, u76, u77, u78, u79, u80, u81, u82, u83, u84, u85, u86, u87, u88], []⟩)
          (fun j' v => fun _ => match j' with | 0 => v = .pointer (some ⟨g6, 3, none⟩) | 1 => v = .slice (some ⟨gr, 0, none⟩) n c | 2 => v = .int .i64 (j : Int) | 3 => v = .agg ZT.cells.toArray | 4 => v = .pointer (some ⟨gr, j * 4, none⟩) | _ => True)
          (fun L w => (∀ p ∈ stP, L p.1 = true → L p.2 = true) ∧ (L 5 = false → Below wq.heap.size wq w) ∧ (L 5 = true → ∃ w0, Below wq.heap.size wq w0 ∧ w = w0.setCells gr (j * 4) ZT.cells)) (fun _ _ => True) (fun _ _ _ _ _ h => h) ?_ ?_ (fun j' => match j' with | 0 => u57 | 1 => u58 | 2 => u59 | 3 => u60 | 4 => u61 | _ => undef) rfl
          ⟨(fun p _ h => by cases h), (fun _ => below_drewG (Below.refl _ _) 1), (fun h => by cases h)⟩
        · intro i' o ho L y wx hd hi' hx hs
          obtain ⟨hp, hs0, hs1⟩ := hs
          match i', ho with
          | 0, ho =>
            obtain rfl := Option.some.inj ho
            have h5 := st_five hp hi' (Or.inl rfl)
            exact .inl ⟨rfl, slot_run (v := .pointer (some ⟨g6, 3, none⟩)) (w' := wx) rfl ⟨_, rfl, trivial, rfl, st_upd hp (by simp [stP]), (fun _ => hs0 h5), (fun h => by rw [upd_ne _ _ (by decide), h5] at h; cases h)⟩⟩
          | 1, ho =>
            obtain rfl := Option.some.inj ho
            have h5 := st_five hp hi' (Or.inr (Or.inl rfl))
            have h0 : L 0 = true := hd ⟨0, .data⟩ (by simp) rfl
            have ya : y 0 = .pointer (some ⟨g6, 3, none⟩) := hx 0 h0
            have c1 : wx.cell? ⟨g6, 3, none⟩ = some (.slice (some ⟨gr, 0, none⟩) n c) := (World.cell?_of_block (a := ⟨g6, 3, none⟩) ((hs0 h5).block g6 (lt_of_rowK R3.out))).trans f57
            refine .inl ⟨rfl, slot_run (v := .slice (some ⟨gr, 0, none⟩) n c) (w' := wx) ?_ ⟨_, rfl, trivial, rfl, st_upd hp (by simp [stP, h0]), (fun _ => hs0 h5), (fun h => by rw [upd_ne _ _ (by decide), h5] at h; cases h)⟩⟩
            refine runWithK (fun z => match z with | .tmp 57 => y 0 | _ => undef) (by kernel_rfl) ?_
            rw [ya]
            go_simp
          | 2, ho =>
            obtain rfl := Option.some.inj ho
            have h5 := st_five hp hi' (Or.inr (Or.inr (Or.inl rfl)))
            exact .inl ⟨rfl, slot_run (v := .int .i64 (j : Int)) (w' := wx) rfl ⟨_, rfl, trivial, rfl, st_upd hp (by simp [stP]), (fun _ => hs0 h5), (fun h => by rw [upd_ne _ _ (by decide), h5] at h; cases h)⟩⟩
          | 3, ho =>
            obtain rfl := Option.some.inj ho
            have h5 := st_five hp hi' (Or.inr (Or.inr (Or.inr (Or.inl rfl))))
            refine .inl ⟨rfl, slot_call #[.string ⟨#[111, 116, 104, 101, 114]⟩] rfl Tryz.func33 (by kernel_rfl) (by kernel_rfl) (by simp [Act.eval]) ?_⟩
            refine (ZT_any wx).mono ?_
            rintro e w' ⟨rfl, hbz⟩
            exact ⟨_, rfl, _, rfl, trivial, rfl, st_upd hp (by simp [stP]), (fun _ => (hs0 h5).trans (hbz.mono (hs0 h5).size)), (fun h => by rw [upd_ne _ _ (by decide), h5] at h; cases h)⟩
          | 4, ho =>
            obtain rfl := Option.some.inj ho
            have h5 := st_five hp hi' (Or.inr (Or.inr (Or.inr (Or.inr rfl))))
            have h1 : L 1 = true := hd ⟨1, .data⟩ (by simp) rfl
            have h2 : L 2 = true := hd ⟨2, .data⟩ (by simp) rfl
            have y1 : y 1 = .slice (some ⟨gr, 0, none⟩) n c := hx 1 h1
            have y2 : y 2 = .int .i64 (j : Int) := hx 2 h2
            refine .inl ⟨rfl, slot_run (v := .pointer (some ⟨gr, j * 4, none⟩)) (w' := wx) ?_ ⟨_, rfl, trivial, rfl, st_upd hp (by simp [stP, h1, h2]), (fun _ => hs0 h5), (fun h => by rw [upd_ne _ _ (by decide), h5] at h; cases h)⟩⟩
            refine runWithK (fun z => match z with | .tmp 58 => y 1 | .tmp 59 => y 2 | _ => undef) (by kernel_rfl) ?_
            rw [y1, y2]
            go_simp
          | 5, ho =>
            obtain rfl := Option.some.inj ho
            have h4 : L 4 = true := hd ⟨4, .data⟩ (by simp) rfl
            have h3 : L 3 = true := hd ⟨3, .data⟩ (by simp) rfl
            have y4 : y 4 = .pointer (some ⟨gr, j * 4, none⟩) := hx 4 h4
            have y3 : y 3 = .agg ZT.cells.toArray := hx 3 h3
            have hbx := hs0 hi'
            have thx : wx.there gr (j * 4) ZT.cells.toArray.size := by
              rw [List.size_toArray, VT.cells_len]
              exact own_there (own_belowK OWN.out hbx) hjn
            refine .inl ⟨rfl, wp_store_mid 24 (.tmp 61) (.tmp 60) rfl gr (j * 4) ZT.cells.toArray (show _ = Value.pointer (some ⟨gr, j * 4, none⟩) by exact y4) (show _ = Value.agg ZT.cells.toArray by exact y3) thx SZ.out ZT.cells_one ⟨undef, rfl, trivial, trivial, st_upd hp (by simp [stP, h3, h4]), (fun h => by rw [upd_self] at h; cases h), (fun _ => ⟨wx, hbx, rfl⟩)⟩⟩
          | k + 6, ho => simp at ho
        · intro L y wx hall hx hs
          obtain ⟨w0, hb0, rfl⟩ := hs.2.2 (hall 5 (by decide))
          have RL := Lib.hid (show ClnLoop w4 g6 X (some ⟨gr, 0, none⟩) n c (w0.setCells gr (j * 4) ZT.cells) from by
            have hl := HLL.out
            have hbl := hl.low.trans (hb0.mono hl.low.size)
            obtain ⟨cs', own'⟩ := own_setCells (own_belowK OWN.out hb0) (j * 4) ZT.cells
            have hne : g6 ≠ gr := fun e => hl.ne (by rw [e]; rfl)
            have hrow := (setCells_other gr g6 hne ZT.cells (j * 4) w0).trans ((hb0.block g6 hl.size).trans hl.row)
            exact ⟨below_setCells gr HGR.out.1 _ _ _ hbl, lt_of_rowK hrow, hrow, ⟨cs', own'⟩, hl.ne⟩)
          clear hx hs hall hb0
          go_wp2_with fail
          exact ⟨⟨j + 1, rfl, hjn, RL.out⟩, by simp [intOf]; omega⟩
      · have q1 : ¬ (j : Int) < (n : Int) := by omega
        have HLw := Lib.hid hL.low
        clear hL
        obtain ⟨jo, rfl⟩ : ∃ jo : Nat, jo = j := ⟨_, rfl⟩
        have fv : wq.cell? ⟨g, 3, none⟩ = some (.slice va vm vc) := by rw [cell_of_rowW wq g 3 _ _ _ (N4.out wq HLw.out)]; simpa using HV3.out
        have CL1 := Lib.hid (HCL.out wq HLw.out)
        go_wp2_with fail
        refine CL1.out.mono ?_
        rintro e w9 ⟨ao2, c2, Y2, rfl, hC2, hb9⟩
        obtain ⟨X2, hX2⟩ : ∃ X2, X2 = cln (VT.mk 3 0 [] va vc vl) ao2 c2 Y2 := ⟨_, rfl⟩
        have x3' : X2.cells[3]? = some (.slice ao2 Y2.length c2) := by rw [hX2]; rfl
        have own9 := hC2.own
        obtain ⟨n2, hn2⟩ : ∃ n2, n2 = Y2.length := ⟨_, rfl⟩
        rw [← hn2] at x3' own9
        have hnb2 : n2 ≤ 140737488355328 := by have := hC2.big; omega
        rw [← hX2]
        obtain ⟨wA, hwA⟩ : ∃ bx, bx = w9.alloc (.cells X2.cells.toArray 24) := ⟨_, rfl⟩
        obtain ⟨gA, hgA⟩ : ∃ bx, bx = w9.heap.size := ⟨_, rfl⟩
        have bwA : Below w9.heap.size w9 wA := by rw [hwA]; exact (Below.refl _ _).alloc (Nat.le_refl _) _
        have nwA : wA.heap[gA]? = some (.cells X2.cells.toArray 24 (0, 0)) := by rw [hwA, hgA]; exact heap_alloc_new _ _
        have KwA := Lib.hid (rowK nwA)
        have HwA := Lib.hid hwA
        have HgA := Lib.hid hgA
        have BwA := Lib.hid bwA
        have NwA := Lib.hid nwA
        clear hwA hgA bwA nwA
        have b4A : Below w4.heap.size w4 wA := HLw.out.trans ((hb9.trans (BwA.out.mono hb9.size)).mono HLw.out.size)
        have LA := Lib.hid (show ClnLoop w4 gA X2 ao2 n2 c2 wA from by
          refine ⟨b4A, lt_of_rowK NwA.out, NwA.out, ⟨_, (own_base (own_belowK own9 BwA.out) HLw.out.size)⟩, ?_⟩
          intro e
          have h1 := own9.lt gA e.symm
          have h2 := HgA.out
          omega)
        have XA3 := Lib.hid x3'
        clear hC2 hX2 x3' own9 hn2 hb9 b4A CL1 HLw fv f6
        have fA : wA.cell? ⟨gA, 3, none⟩ = some (.slice ao2 n2 c2) := by have h := KwA.out 3 _ XA3.out; rwa [Addr.add_mid] at h
        go_wp2_with (first
          | (with_reducible show wpList _ _ _ _ _ _; refine wpList_store_newW rfl 24 (.tmp 6) (.tmp 65) rfl 24 _ X2.cells.toArray rfl rfl (Tryz.valSize' X2) (by with_unfolding_all exact VT.four X2) X2.cells_one ?_; rw [← HwA.out, ← HgA.out]))
        go_loopw [69] (fun i wr => clRelT w4 gA X2 ao2 n2 c2 i wr) (fun i _ => n2 - (intOf i).toNat)
        case atStart => exact ⟨0, rfl, Nat.zero_le _, LA.out⟩
        case round =>
          obtain ⟨wq, rfl⟩ : ∃ wq : World, wq = wr := ⟨_, rfl⟩
          obtain ⟨j, rfl, hj, hL⟩ := hrel
          have q0 : (0 : Int) ≤ (j : Int) := by omega
          by_cases hjn : j < n2
          · have q1 : (j : Int) < (n2 : Int) := by omega
            have R3 := Lib.hid (hL.row)
            have f72 : wq.cell? ⟨gA, 3, none⟩ = some (.slice ao2 n2 c2) := by rw [cell_of_rowW wq gA 3 _ _ _ R3.out]; simpa using XA3.out
            obtain ⟨cs, own⟩ := hL.own
            obtain ⟨gr, rfl⟩ : ∃ gr, ao2 = some ⟨gr, 0, none⟩ := by
              rcases own.2 with ⟨_, h0⟩ | ⟨g', cap, cur, e1, _⟩
              · omega
              · injection e1 with e1 _ _
                exact ⟨g', e1⟩
            have hgr := own.lt gr rfl
            have HGR := Lib.hid hgr
            have OWN := Lib.hid own
            have HLL := Lib.hid hL
            have TH := Lib.hid (own_there own hjn)
            have SZ := Lib.hid (Tryz.valSize' ZO)
            go_upto_region 16 with fail
            refine wp_region_slotsG (by kernel_rfl) (by kernel_rfl)
              (fun y => ⟨#[Value.agg v.cells.toArray, Value.pointer (some { block := g, off := 0 }), Value.bool false, Value.bool T, Value.pointer (some { block := g6, off := 0 }), u5, Value.pointer (some { block := gA, off := 0 }), Value.int IntKind.i64 ↑j, u8, u9, u10, u11, u12, u13, u14, u15, u16, u17, u18, u19, u20, u21, u22, u23, u24, u25, u26, u27, u28, u29, u30, u31, u32, u33, u34, u35, u36, u37, u38, u39, u40, u41, u42, u43, u44, u45, u46, u47, u48, Value.agg v.cells.toArray, Value.agg X.cells.toArray, Value.pointer (some { block := g6, off := 3 }), Value.slice ao n c, Value.int IntKind.i64 ↑n, Value.int IntKind.i64 ↑jo, Value.bool false, u56, u57, u58, u59, u60, u61, u62, Value.pointer (some { block := g, off := 3 }), Value.slice va vm vc, Value.agg X2.cells.toArray, Value.pointer (some { block := gA, off := 3 }), Value.slice (some ⟨gr, 0, none⟩) n2 c2, Value.int IntKind.i64 ↑n2, Value.int IntKind.i64 ↑j, Value.bool true, Value.int IntKind.i64 ↑j, y 0, y 1, y 2, y 3, y 4, u77, u78, u79, u80, u81, u82, u83, u84, u85, u86, u87, u88], []⟩)
              (fun j' v => fun _ => match j' with | 0 => v = .pointer (some ⟨gA, 3, none⟩) | 1 => v = .slice (some ⟨gr, 0, none⟩) n2 c2 | 2 => v = .int .i64 (j : Int) | 3 => v = .agg ZO.cells.toArray | 4 => v = .pointer (some ⟨gr, j * 4, none⟩) | _ => True)
              (fun L w => (∀ p ∈ stP, L p.1 = true → L p.2 = true) ∧ (L 5 = false → Below wq.heap.size wq w) ∧ (L 5 = true → ∃ w0, Below wq.heap.size wq w0 ∧ w = w0.setCells gr (j * 4) ZO.cells)) (fun _ _ => True) (fun _ _ _ _ _ h => h) ?_ ?_ (fun j' => match j' with | 0 => u72 | 1 => u73 | 2 => u74 | 3 => u75 | 4 => u76 | _ => undef) rfl
              ⟨(fun p _ h => by cases h), (fun _ => below_drewG (Below.refl _ _) 1), (fun h => by cases h)⟩
            · intro i' o ho L y wx hd hi' hx hs
              obtain ⟨hp, hs0, hs1⟩ := hs
              match i', ho with
              | 0, ho =>
                obtain rfl := Option.some.inj ho
                have h5 := st_five hp hi' (Or.inl rfl)
                exact .inl ⟨rfl, slot_run (v := .pointer (some ⟨gA, 3, none⟩)) (w' := wx) rfl ⟨_, rfl, trivial, rfl, st_upd hp (by simp [stP]), (fun _ => hs0 h5), (fun h => by rw [upd_ne _ _ (by decide), h5] at h; cases h)⟩⟩
              | 1, ho =>
                obtain rfl := Option.some.inj ho
                have h5 := st_five hp hi' (Or.inr (Or.inl rfl))
                have h0 : L 0 = true := hd ⟨0, .data⟩ (by simp) rfl
                have ya : y 0 = .pointer (some ⟨gA, 3, none⟩) := hx 0 h0
                have c1 : wx.cell? ⟨gA, 3, none⟩ = some (.slice (some ⟨gr, 0, none⟩) n2 c2) := (World.cell?_of_block (a := ⟨gA, 3, none⟩) ((hs0 h5).block gA (lt_of_rowK R3.out))).trans f72
                refine .inl ⟨rfl, slot_run (v := .slice (some ⟨gr, 0, none⟩) n2 c2) (w' := wx) ?_ ⟨_, rfl, trivial, rfl, st_upd hp (by simp [stP, h0]), (fun _ => hs0 h5), (fun h => by rw [upd_ne _ _ (by decide), h5] at h; cases h)⟩⟩
                refine runWithK (fun z => match z with | .tmp 72 => y 0 | _ => undef) (by kernel_rfl) ?_
                rw [ya]
                go_simp
              | 2, ho =>
                obtain rfl := Option.some.inj ho
                have h5 := st_five hp hi' (Or.inr (Or.inr (Or.inl rfl)))
                exact .inl ⟨rfl, slot_run (v := .int .i64 (j : Int)) (w' := wx) rfl ⟨_, rfl, trivial, rfl, st_upd hp (by simp [stP]), (fun _ => hs0 h5), (fun h => by rw [upd_ne _ _ (by decide), h5] at h; cases h)⟩⟩
              | 3, ho =>
                obtain rfl := Option.some.inj ho
                have h5 := st_five hp hi' (Or.inr (Or.inr (Or.inr (Or.inl rfl))))
                refine .inl ⟨rfl, slot_call #[.int .i64 7] rfl Tryz.func35 (by kernel_rfl) (by kernel_rfl) (by simp [Act.eval]) ?_⟩
                refine (ZO_any wx).mono ?_
                rintro e w' ⟨rfl, hbz⟩
                exact ⟨_, rfl, _, rfl, trivial, rfl, st_upd hp (by simp [stP]), (fun _ => (hs0 h5).trans (hbz.mono (hs0 h5).size)), (fun h => by rw [upd_ne _ _ (by decide), h5] at h; cases h)⟩
              | 4, ho =>
                obtain rfl := Option.some.inj ho
                have h5 := st_five hp hi' (Or.inr (Or.inr (Or.inr (Or.inr rfl))))
                have h1 : L 1 = true := hd ⟨1, .data⟩ (by simp) rfl
                have h2 : L 2 = true := hd ⟨2, .data⟩ (by simp) rfl
                have y1 : y 1 = .slice (some ⟨gr, 0, none⟩) n2 c2 := hx 1 h1
                have y2 : y 2 = .int .i64 (j : Int) := hx 2 h2
                refine .inl ⟨rfl, slot_run (v := .pointer (some ⟨gr, j * 4, none⟩)) (w' := wx) ?_ ⟨_, rfl, trivial, rfl, st_upd hp (by simp [stP, h1, h2]), (fun _ => hs0 h5), (fun h => by rw [upd_ne _ _ (by decide), h5] at h; cases h)⟩⟩
                refine runWithK (fun z => match z with | .tmp 73 => y 1 | .tmp 74 => y 2 | _ => undef) (by kernel_rfl) ?_
                rw [y1, y2]
                go_simp
              | 5, ho =>
                obtain rfl := Option.some.inj ho
                have h4 : L 4 = true := hd ⟨4, .data⟩ (by simp) rfl
                have h3 : L 3 = true := hd ⟨3, .data⟩ (by simp) rfl
                have y4 : y 4 = .pointer (some ⟨gr, j * 4, none⟩) := hx 4 h4
                have y3 : y 3 = .agg ZO.cells.toArray := hx 3 h3
                have hbx := hs0 hi'
                have thx : wx.there gr (j * 4) ZO.cells.toArray.size := by
                  rw [List.size_toArray, VT.cells_len]
                  exact own_there (own_belowK OWN.out hbx) hjn
                refine .inl ⟨rfl, wp_store_mid 24 (.tmp 76) (.tmp 75) rfl gr (j * 4) ZO.cells.toArray (show _ = Value.pointer (some ⟨gr, j * 4, none⟩) by exact y4) (show _ = Value.agg ZO.cells.toArray by exact y3) thx SZ.out ZO.cells_one ⟨undef, rfl, trivial, trivial, st_upd hp (by simp [stP, h3, h4]), (fun h => by rw [upd_self] at h; cases h), (fun _ => ⟨wx, hbx, rfl⟩)⟩⟩
              | k + 6, ho => simp at ho
            · intro L y wx hall hx hs
              obtain ⟨w0, hb0, rfl⟩ := hs.2.2 (hall 5 (by decide))
              have RL := Lib.hid (show ClnLoop w4 gA X2 (some ⟨gr, 0, none⟩) n2 c2 (w0.setCells gr (j * 4) ZO.cells) from by
                have hl := HLL.out
                have hbl := hl.low.trans (hb0.mono hl.low.size)
                obtain ⟨cs', own'⟩ := own_setCells (own_belowK OWN.out hb0) (j * 4) ZO.cells
                have hne : gA ≠ gr := fun e => hl.ne (by rw [e]; rfl)
                have hrow := (setCells_other gr gA hne ZO.cells (j * 4) w0).trans ((hb0.block gA hl.size).trans hl.row)
                exact ⟨below_setCells gr HGR.out.1 _ _ _ hbl, lt_of_rowK hrow, hrow, ⟨cs', own'⟩, hl.ne⟩)
              clear hx hs hall hb0
              go_wp2_with fail
              exact ⟨⟨j + 1, rfl, hjn, RL.out⟩, by simp [intOf]; omega⟩
          · have q1 : ¬ (j : Int) < (n2 : Int) := by omega
            have HLz := Lib.hid hL.low
            clear hL
            have UPz := Lib.hid (fun (W : World) (h : Below wq.heap.size wq W) => HLz.out.trans (h.mono HLz.out.size))
            have KVz := Lib.hid (fun (W : World) (h : Below wq.heap.size wq W) => Kw4.out W (UPz.out W h))
            have SZ := Lib.hid Tryz.valSize
            obtain ⟨PS, hPS⟩ : ∃ PS, PS = str v.pv := ⟨_, rfl⟩
            have CTz := Lib.hid (fun (W : World) (h : Below wq.heap.size wq W) => show Calls Tryz.prog 36 #[.agg v.cells.toArray] W fun e w' => e = .returned (.bool T) ∧ Below W.heap.size W w' from by
              rw [HT.out]; exact vtrue_any v w4.heap.size W (HV4.out.below (UPz.out W h)) (UPz.out W h).size)
            have CPz := Lib.hid (fun (W : World) (h : Below wq.heap.size wq W) => show Calls Tryz.prog 28 #[.agg v.cells.toArray] W fun e w' => e = .returned (.string PS) ∧ Below W.heap.size W w' from by
              rw [hPS]; exact vprint_any v HF.out.dpr w4.heap.size W (HV4.out.below (UPz.out W h)) (UPz.out W h).size (by have := HF.out.pz; omega) ((G4.out.on (UPz.out W h)).base (UPz.out W h).size).1)
            have CRz := Lib.hid (fun (W : World) (h : Below wq.heap.size wq W) => show Calls Tryz.prog 30 #[.agg v.cells.toArray] W fun e w' => e = .returned (.string PS) ∧ Below W.heap.size W w' from by
              rw [hPS]; exact rprint_any v w4.heap.size W (HV4.out.below (UPz.out W h)) (UPz.out W h).size (by have := HF.out.pz; omega))
            have FINz := Lib.hid (fun (W : World) (h : Below wq.heap.size wq W) => RL4.out.trans ((UPz.out W h).mono RL4.out.size))
            clear hPS
            go_upto_region 18 with fail
            refine wp_region_quiet_in (fun w' => Below wq.heap.size wq w') (by kernel_rfl) (by kernel_rfl) (below_drewG (Below.refl wq.heap.size wq) 1) ?_
            refine wpQuiet_loadG (by kernel_rfl) 24 (.tmp 1) rfl ⟨g, 0, none⟩ rfl v.cells _ (fun w' hC => KVz.out w' hC) Tryz.underlying24 rfl (SZ.out v) ?_
            simp only [Act.put, List.setIfInBounds_toArray, List.set_cons_zero, List.set_cons_succ, List.getElem_toArray, List.getElem_cons_zero, List.getElem_cons_succ]
            refine wpQuiet_callG (f := 36) (xs := #[.tmp 78]) #[.agg v.cells.toArray] (.bool T) (by kernel_rfl) rfl Tryz.func36 (by kernel_rfl) (by kernel_rfl) (by simp [Act.eval]) (fun W hW => (CTz.out W hW).mono fun e w' h => ⟨h.1, Below.trans hW (h.2.mono hW.size)⟩) ?_
            simp only [Act.put, List.setIfInBounds_toArray, List.set_cons_zero, List.set_cons_succ, List.getElem_toArray, List.getElem_cons_zero, List.getElem_cons_succ]
            refine wpQuiet_runG (v := .bool T) (by kernel_rfl) (fun w' hC => by rfl) ?_
            simp only [Act.put, List.setIfInBounds_toArray, List.set_cons_zero, List.set_cons_succ, List.getElem_toArray, List.getElem_cons_zero, List.getElem_cons_succ]
            refine wpQuiet_runG (v := .bool true) (by kernel_rfl) (fun w' hC => by go_simp) ?_
            simp only [Act.put, List.setIfInBounds_toArray, List.set_cons_zero, List.set_cons_succ, List.getElem_toArray, List.getElem_cons_zero, List.getElem_cons_succ]
            refine wpQuiet_runG (v := .bool true) (by kernel_rfl) (fun w' hC => by rfl) ?_
            simp only [Act.put, List.setIfInBounds_toArray, List.set_cons_zero, List.set_cons_succ, List.getElem_toArray, List.getElem_cons_zero, List.getElem_cons_succ]
            refine wpQuiet_loadG (by kernel_rfl) 24 (.tmp 1) rfl ⟨g, 0, none⟩ rfl v.cells _ (fun w' hC => KVz.out w' hC) Tryz.underlying24 rfl (SZ.out v) ?_
            simp only [Act.put, List.setIfInBounds_toArray, List.set_cons_zero, List.set_cons_succ, List.getElem_toArray, List.getElem_cons_zero, List.getElem_cons_succ]
            refine wpQuiet_callG (f := 28) (xs := #[.tmp 83]) #[.agg v.cells.toArray] (.string PS) (by kernel_rfl) rfl Tryz.func28 (by kernel_rfl) (by kernel_rfl) (by simp [Act.eval]) (fun W hW => (CPz.out W hW).mono fun e w' h => ⟨h.1, Below.trans hW (h.2.mono hW.size)⟩) ?_
            simp only [Act.put, List.setIfInBounds_toArray, List.set_cons_zero, List.set_cons_succ, List.getElem_toArray, List.getElem_cons_zero, List.getElem_cons_succ]
            refine wpQuiet_loadG (by kernel_rfl) 24 (.tmp 1) rfl ⟨g, 0, none⟩ rfl v.cells _ (fun w' hC => KVz.out w' hC) Tryz.underlying24 rfl (SZ.out v) ?_
            simp only [Act.put, List.setIfInBounds_toArray, List.set_cons_zero, List.set_cons_succ, List.getElem_toArray, List.getElem_cons_zero, List.getElem_cons_succ]
            refine wpQuiet_callG (f := 30) (xs := #[.tmp 85]) #[.agg v.cells.toArray] (.string PS) (by kernel_rfl) rfl Tryz.func30 (by kernel_rfl) (by kernel_rfl) (by simp [Act.eval]) (fun W hW => (CRz.out W hW).mono fun e w' h => ⟨h.1, Below.trans hW (h.2.mono hW.size)⟩) ?_
            simp only [Act.put, List.setIfInBounds_toArray, List.set_cons_zero, List.set_cons_succ, List.getElem_toArray, List.getElem_cons_zero, List.getElem_cons_succ]
            refine wpQuiet_runG (v := .bool true) (by kernel_rfl) (fun w' hC => by go_simp) ?_
            simp only [Act.put, List.setIfInBounds_toArray, List.set_cons_zero, List.set_cons_succ, List.getElem_toArray, List.getElem_cons_zero, List.getElem_cons_succ]
            refine wpQuiet_runG (v := .bool true) (by kernel_rfl) (fun w' hC => by rfl) ?_
            simp only [Act.put, List.setIfInBounds_toArray, List.set_cons_zero, List.set_cons_succ, List.getElem_toArray, List.getElem_cons_zero, List.getElem_cons_succ]
            refine wpQuiet_runG (v := .bool true) (by kernel_rfl) (fun w' hC => by rfl) ?_
            simp only [Act.put, List.setIfInBounds_toArray, List.set_cons_zero, List.set_cons_succ, List.getElem_toArray, List.getElem_cons_zero, List.getElem_cons_succ]
            refine wpQuiet_nil ?_
            intro wf hCf
            go_wp2_with fail
            go_ret
            exact ⟨rfl, FINz.out wf hCf⟩
end Go.Proofs.YthfjahagmfgfeaaGreatDoor.Wi
