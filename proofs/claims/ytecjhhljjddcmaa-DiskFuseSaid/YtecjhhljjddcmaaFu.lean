/- The law DiskFuse: its walk. -/
import Derived.Test.YtecjhhljjddcmaaDq
import Derived.Test.YtecjhhljjddcmaaDj
import Derived.Deep.RegionHeld3
namespace Go.Proofs.Ytecjhhljjddcmaa.Dk
open Go Go.RowKit
set_option linter.unusedVariables false
set_option linter.unusedSimpArgs false

/-- Keys lie within the disk. -/
def DS.inside (x : DS) : Prop := ∀ i l, wfi i → x.S i = some l → x.has i = true
theorem DS.inside_new (n : Nat) : (DS.new n).inside := fun i l _ h => by simp [DS.new] at h
theorem DS.spend_same (x : DS) : x.spend.S = x.S ∧ x.spend.s = x.s := by
  unfold DS.spend
  split
  · exact ⟨rfl, rfl⟩
  · split <;> exact ⟨rfl, rfl⟩
theorem DS.write_len (x : DS) (i : Int) (b : List UInt8) : (x.write i b).s = x.s := by
  have h := x.spend_same
  unfold DS.write
  split
  · rfl
  · split
    · rfl
    · split
      · rfl
      · split
        · rfl
        · split
          · exact h.2
          · exact h.2
theorem DS.inside_write {x : DS} (h : x.inside) (i : Int) (b : List UInt8) : (x.write i b).inside := by
  intro j l hj hS
  have hlen := x.write_len i b
  have hh : (x.write i b).has j = x.has j := by unfold DS.has; rw [hlen]
  rw [hh]
  have hsp := x.spend_same
  unfold DS.write at hS
  split at hS
  · exact h j l hj hS
  · split at hS
    · exact h j l hj hS
    · split at hS
      · exact h j l hj hS
      · split at hS
        · exact h j l hj hS
        · split at hS
          · rw [hsp.1] at hS; exact h j l hj hS
          · rename_i hi _ _ _
            simp only [upd] at hS
            split at hS
            · rename_i e
              subst e
              simpa using hi
            · exact h j l hj hS
theorem DS.flush_len (x : DS) : x.flush.s.length = x.s.length := by
  have h := x.spend_same
  unfold DS.flush
  split
  · rfl
  · split
    · rw [h.2]
    · simp [laid_length]
theorem DS.inside_flush {x : DS} (h : x.inside) : x.flush.inside := by
  intro j l hj hS
  have hh : x.flush.has j = x.has j := by unfold DS.has; rw [x.flush_len]
  rw [hh]
  have hsp := x.spend_same
  unfold DS.flush at hS
  split at hS
  · exact h j l hj hS
  · split at hS
    · rw [hsp.1] at hS; exact h j l hj hS
    · simp at hS
/-- So the fuse burns: done of F. -/
def Burns (F done : Int) (z : DS) : Prop := (z.down = false ∧ z.fuse = F - done ∧ 0 ≤ done ∧ done ≤ F) ∨ (z.down = true ∧ done = F ∧ z.fuse = -1)
theorem burn_write {F done : Int} {z : DS} {i : Int} {b : List UInt8} (h : Burns F done z) (hi : z.has i = true) (hb : b.length = 128) :
    (z.wcode i 128 = 0 ∧ done < F ∧ Burns F (done + 1) (z.write i b) ∧ (z.write i b).down = false) ∨ (z.wcode i 128 = 50 ∧ done = F ∧ Burns F done (z.write i b) ∧ (z.write i b).down = true) := by
  rcases h with ⟨h1, h2, h3, h4⟩ | ⟨h1, h2, h5⟩
  · by_cases h0 : z.fuse = 0
    · right
      refine ⟨by simp [DS.wcode, h1, hi, h0], by omega, .inr ⟨?_, by omega, ?_⟩, ?_⟩ <;> simp [DS.write, DS.spend, h1, hi, hb, h0]
    · have hp : 0 < z.fuse := by omega
      left
      refine ⟨by simp [DS.wcode, h1, hi, h0], by omega, .inl ⟨?_, ?_, by omega, by omega⟩, ?_⟩
      · simp [DS.write, DS.spend, h1, hi, hb, h0, hp]
      · simp [DS.write, DS.spend, h1, hi, hb, h0, hp]; omega
      · simp [DS.write, DS.spend, h1, hi, hb, h0, hp]
  · right
    refine ⟨by simp [DS.wcode, h1], h2, .inr ⟨?_, h2, ?_⟩, ?_⟩ <;> simp [DS.write, h1, h5]
theorem burn_flush {F done : Int} {z : DS} (h : Burns F done z) :
    (z.fcode = 0 ∧ done < F ∧ Burns F (done + 1) z.flush ∧ z.flush.down = false) ∨ (z.fcode = 50 ∧ done = F ∧ Burns F done z.flush ∧ z.flush.down = true) := by
  rcases h with ⟨h1, h2, h3, h4⟩ | ⟨h1, h2, h5⟩
  · by_cases h0 : z.fuse = 0
    · right
      refine ⟨by simp [DS.fcode, h1, h0], by omega, .inr ⟨?_, by omega, ?_⟩, ?_⟩ <;> simp [DS.flush, DS.spend, h1, h0]
    · have hp : 0 < z.fuse := by omega
      left
      refine ⟨by simp [DS.fcode, h1, h0], by omega, .inl ⟨?_, ?_, by omega, by omega⟩, ?_⟩
      · simp [DS.flush, DS.spend, h1, h0, hp]
      · simp [DS.flush, DS.spend, h1, h0, hp]; omega
      · simp [DS.flush, DS.spend, h1, h0, hp]
  · right
    refine ⟨by simp [DS.fcode, h1], h2, .inr ⟨?_, h2, ?_⟩, ?_⟩ <;> simp [DS.flush, h1, h5]
theorem read_code {z : DS} (h : z.s.length = 4) : (z.read 0).2 = if z.down = true then 50 else 0 := by
  unfold DS.read
  split
  · rfl
  · split
    · rfl
    · simp [DS.sure, DS.has, h]
/-- Where the loop stands. -/
def FuRel (w : World) (F : Int) (d g m : Nat) (L : List OpD) (u v : Value) (wr : World) : Prop :=
  ∃ (j n : Nat) (done : Int) (z : DS), u = .int .i64 (j : Int) ∧ v = .int .i64 done ∧ j ≤ L.length ∧ n ≤ j ∧ Burns F done z ∧ z.inside ∧ z.s.length = 4 ∧ DiskAt Try.prog wr d g m n z ∧ Below w.heap.size w wr
set_option maxRecDepth 100000 in
set_option maxHeartbeats 4000000 in
theorem fuse_law (F : Int) (hF0 : 0 ≤ F) (hF : F ≤ 40) (ao : Option Addr) (c : Nat) (L : List OpD) (w : World) (hO : Ops w (.slice ao L.length c) L) (hlen : L.length ≤ 9223372036854775807) (hfit : fitsB L = true) :
    Calls Try.prog 7 #[.int .i64 F, .slice ao L.length c] w fun e w' => e = .returned (.bool true) ∧ Below w.heap.size w w' := by
  have h30 : L.length ≤ 30 := by simp [fitsB] at hfit; exact hfit.1
  have HO := Lib.hid hO
  have FT := Lib.hid (fun W h => fits_any ao c L W h hlen)
  rw [hfit] at FT
  have HFIT := Lib.hid hfit
  have f1 : ¬ F < 0 := by omega
  have f2 : ¬ 40 < F := by omega
  clear hO hfit
  go_enter Try.func7, Try.ntmps7
  go_wp2_with fail
  refine (works_any w).mono ?_
  rintro e w0 ⟨rfl, hB0⟩
  have HB0 := Lib.hid hB0
  clear hB0
  go_wp2_with fail
  refine (FT.out w0 (HO.out.below HB0.out (Nat.le_refl _))).mono ?_
  rintro e w1 ⟨rfl, hB1⟩
  have HB1 := Lib.hid (HB0.out.trans (hB1.mono HB0.out.size))
  clear hB1 FT HB0
  go_wp2_with fail
  refine (new_any 4 (by decide) (by decide) w1).mono ?_
  rintro e w2 ⟨d, g, m, rfl, hD2, hb2, hd, hg, hm⟩
  have HB2 := Lib.hid (HB1.out.trans (hb2.mono HB1.out.size))
  have OWN := Lib.hid (show ∀ i, own3 d g m i → w.heap.size ≤ i from fun i h => by have := HB1.out.size; rcases h with h | h | h <;> omega)
  have FS := Lib.hid (fuse_any hD2 F (WalkArith.wf_i64 (by omega)))
  clear hD2 hb2 hd hg hm HB1
  go_wp2_with fail
  refine FS.out.mono ?_
  rintro e w3 ⟨rfl, hD3, hF3⟩
  have HB3 := Lib.hid (HB2.out.trans (hF3.below (fun i _ h => OWN.out i h) HB2.out.size))
  have R0 := Lib.hid (show FuRel w F d g m L (.int .i64 0) (.int .i64 0) w3 from ⟨0, 0, 0, _, rfl, rfl, Nat.zero_le _, Nat.le_refl _, .inl ⟨rfl, by simp, by omega, hF0⟩, fun i l _ h => by simp [DS.new] at h, by simp [DS.new], hD3, HB3.out⟩)
  clear hD3 hF3 FS HB2 HB3
  go_wp2_with fail
  go_loopw [38, 7] (fun u v wr => FuRel w F d g m L u v wr) (fun u _ _ => L.length - (intOf u).toNat)
  case atStart => exact R0.out
  case round =>
    obtain ⟨wo, rfl⟩ : ∃ wo : World, wo = wr := ⟨_, rfl⟩
    obtain ⟨j, n, done, z, rfl, rfl, hj, hn, hb, hin, hs4, hD, hB⟩ := hrel
    have BN := Lib.hid hb
    have HIN := Lib.hid hin
    have HS4 := Lib.hid hs4
    have HD := Lib.hid hD
    have HB := Lib.hid hB
    clear hb hin hs4 R0
    by_cases hjl : j < L.length
    · have hji : (j : Int) < (L.length : Int) := by omega
      obtain ⟨a, rfl, hcell, hgood⟩ := (HO.out.below hB (Nat.le_refl _)).at hjl
      obtain ⟨p, hp⟩ : ∃ p, p = L.getD j default := ⟨_, rfl⟩
      rw [← hp] at hcell hgood
      obtain ⟨w4, hw4⟩ : ∃ w4, w4 = wo.alloc (.cells p.cells.toArray 77) := ⟨_, rfl⟩
      have hr4 := heap_alloc_new wo (.cells p.cells.toArray 77)
      rw [← hw4] at hr4
      obtain ⟨q, hq⟩ : ∃ q, q = wo.heap.size := ⟨_, rfl⟩
      rw [← hq] at hr4
      have q0 : w4.cell? ⟨q, 0, none⟩ = some (.int .i64 p.kind) := by rw [cell_of_row w4 q 0 _ _ _ hr4]; rfl
      have q1 : w4.cell? ⟨q, 1, none⟩ = some (.int .i64 p.n) := by rw [cell_of_row w4 q 1 _ _ _ hr4]; rfl
      have q5 : w4.cell? ⟨q, 5, none⟩ = some (.slice p.ao p.data.length p.cap) := by rw [cell_of_row w4 q 5 _ _ _ hr4]; rfl
      have HW := Lib.hid hw4
      have HC := Lib.hid hcell
      have HZ := Lib.hid (Try.opSize p)
      have HZ2 := Lib.hid (show (Try.prog.info? 77).map (·.size) = some p.cells.toArray.size by rw [List.size_toArray]; exact Try.opSize p)
      have HO1 := Lib.hid p.cells_one
      have HQ := Lib.hid hq
      have D4 := Lib.hid (show DiskAt Try.prog w4 d g m n z by rw [hw4]; exact HD.out.alloc _)
      have B4 := Lib.hid (show Below w.heap.size w w4 by rw [hw4]; exact HB.out.alloc HB.out.size _)
      have G4 := Lib.hid (show p.Good w4 by rw [hw4]; exact hgood.below ((Below.refl wo.heap.size wo).alloc (Nat.le_refl _) _) (Nat.le_refl _))
      have NQ := Lib.hid (show ¬ own3 d g m q from fun h => by have := h.elim (fun h => h ▸ HD.out.dlt) (fun h => h.elim (fun h => h ▸ HD.out.glt) (fun h => h ▸ HD.out.mlt)); omega)
      clear hw4 hr4 hcell hgood hp hD hB HD HB hq
      by_cases hk : p.kind = 2
      · rw [hk] at q0
        have FL := Lib.hid (flush_any D4.out HIN.out)
        go_wp2_with (first | (with_reducible show wpList _ _ _ _ _ _; refine wpList_load_all rfl 77 (.tmp 40) rfl (a.add (j * 7)) rfl p.cells _ HC.out Try.underlying77 rfl HZ.out ?_) | (with_reducible show wpList _ _ _ _ _ _; refine wpList_store_new rfl 77 (.tmp 9) (.tmp 41) rfl 77 #[.int .i64 0, .int .i64 0, .int .i64 0, .int .u8 0, .bool false, .slice none 0 0, .slice none 0 0] p.cells.toArray rfl rfl HZ2.out rfl HO1.out ?_; rw [← HW.out]; rw [← HQ.out]))
        refine FL.out.mono ?_
        rintro e w5 ⟨rfl, hD5, hF5⟩
        have B5 := Lib.hid (B4.out.trans (hF5.below (fun i _ h => OWN.out i h) B4.out.size))
        have BU := burn_flush BN.out
        clear hF5 FL
        have DN := Lib.hid (down_any hD5)
        have H5 := Lib.hid hD5
        rcases BU with ⟨c0, c1, c2, c3⟩ | ⟨c0, c1, c2, c3⟩
        · rw [c0]
          rw [c3] at DN
          have hd0 := Lib.hid (show 0 ≤ done ∧ done ≤ 40 from by rcases BN.out with ⟨_, _, h3, h4⟩ | ⟨_, h3, _⟩ <;> omega)
          have hd1 := hd0.out.1
          have hd2 := hd0.out.2
          have RR := Lib.hid (show FuRel w F d g m L (.int .i64 ((j + 1 : Nat) : Int)) (.int .i64 (done + 1)) w5 from ⟨j + 1, n, done + 1, _, rfl, rfl, by omega, by omega, c2, DS.inside_flush HIN.out, by rw [z.flush_len]; exact HS4.out, H5.out, B5.out⟩)
          clear hD5 c0 c2 c3
          go_wp2_with fail
          refine DN.out.mono ?_
          rintro e w' ⟨rfl, rfl⟩
          go_wp2_with fail
          exact ⟨RR.out, by simp [intOf]; omega⟩
        · rw [c0]
          rw [c3] at DN
          have c1' : ¬ done < F := by omega
          have RR := Lib.hid (show FuRel w F d g m L (.int .i64 ((j + 1 : Nat) : Int)) (.int .i64 done) w5 from ⟨j + 1, n, done, _, rfl, rfl, by omega, by omega, c2, DS.inside_flush HIN.out, by rw [z.flush_len]; exact HS4.out, H5.out, B5.out⟩)
          clear hD5 c0 c1 c2 c3
          go_wp2_with fail
          refine DN.out.mono ?_
          rintro e w' ⟨rfl, rfl⟩
          go_wp2_with fail
          exact ⟨RR.out, by simp [intOf]; omega⟩
      · have hk' : ¬ (p.kind = 2) := hk
        have SL := Lib.hid (show Sl w4.drew (.slice p.ao p.data.length p.cap) p.data from G4.out.data)
        have KP := Lib.hid (fun (W : World) (h : W.heap[q]? = w4.heap[q]?) => (show W.cell? ⟨q, 1, none⟩ = some (.int .i64 p.n) ∧ W.cell? ⟨q, 5, none⟩ = some (.slice p.ao p.data.length p.cap) from ⟨(World.cell?_of_block (a := ⟨q, 1, none⟩) h).trans q1, (World.cell?_of_block (a := ⟨q, 5, none⟩) h).trans q5⟩))
        have QL := Lib.hid (show q < w4.heap.size from World.block_lt_of_cell? w4 ⟨q, 1, none⟩ q1)
        go_wp2_with (first | (with_reducible show wpList _ _ _ _ _ _; refine wpList_load_all rfl 77 (.tmp 40) rfl (a.add (j * 7)) rfl p.cells _ HC.out Try.underlying77 rfl HZ.out ?_) | (with_reducible show wpList _ _ _ _ _ _; refine wpList_store_new rfl 77 (.tmp 9) (.tmp 41) rfl 77 #[.int .i64 0, .int .i64 0, .int .i64 0, .int .u8 0, .bool false, .slice none 0 0, .slice none 0 0] p.cells.toArray rfl rfl HZ2.out rfl HO1.out ?_; rw [← HW.out]; rw [← HQ.out]))
        have WRA := Lib.hid (fun (i : Int) (hi : 0 ≤ i ∧ i < 4) (W : World) (k : Nat) (hW : Below w4.heap.size w4 W) (hk : w4.heap.size ≤ k) (hr : W.heap[k]? = some (.cells (bvs (pad p.data)).toArray 5 (0, 0))) =>
          write_own (D4.out.below hW (Nat.le_refl _)) (by unfold maxLen; omega) i (WalkArith.wf_i64 (by omega)) ⟨k, rfl, hr, pad_length _, fun h => by have := h.elim (fun h => h ▸ D4.out.dlt) (fun h => h.elim (fun h => h ▸ D4.out.glt) (fun h => h ▸ D4.out.mlt)); omega⟩)
        by_cases hp0 : 0 < p.n
        · have hp1 : ¬ p.n < 0 := by omega
          have ht : 0 ≤ p.n.tmod 4 ∧ p.n.tmod 4 < 4 := ⟨Int.tmod_nonneg _ (by omega), Int.tmod_lt_of_pos _ (by decide)⟩
          have HT := Lib.hid ht
          clear ht
          have BU0 := Lib.hid (burn_write (i := p.n.tmod 4) BN.out (by have := HT.out; simp [DS.has, HS4.out]; omega) (pad_length p.data))
          have LL := Lib.hid (show (z.write (p.n.tmod 4) (pad p.data)).s.length = 4 by rw [z.write_len]; exact HS4.out)
          have IN := Lib.hid (DS.inside_write HIN.out (p.n.tmod 4) (pad p.data))
          go_region_held3 (fun w' => w'.cell? ⟨q, 1, none⟩ = some (.int .i64 p.n) ∧ w'.cell? ⟨q, 5, none⟩ = some (.slice p.ao p.data.length p.cap))
            (first
              | exact KP.out _ rfl
              | exact KP.out _ K5.out
              | exact KP.out _ K6.out)
            (first
              | (go_at_call 50; (with_reducible refine (sector_any SL.out).mono ?_); rintro e w5 ⟨v, rfl, ⟨k, rfl, hk5, hr5, hl5⟩, hb5⟩; have K5 := Lib.hid (hb5.block q QL.out); have B45 := Lib.hid ((Below.refl w4.heap.size w4).drew.trans hb5); have HR5 := Lib.hid hr5; have K55 : w4.heap.size ≤ k := hk5)
              | (go_at_call 49; (with_reducible refine (WRA.out (p.n.tmod 4) HT.out w5 k B45.out K55 HR5.out).mono ?_); rintro e w6 ⟨rfl, hD6, hF6⟩; have K6 := Lib.hid ((hF6.block q (Nat.lt_of_lt_of_le QL.out B45.out.size) NQ.out).trans K5.out); have HD6 := Lib.hid hD6; have B5 := Lib.hid ((B4.out.trans (B45.out.mono B4.out.size)).trans (hF6.below (fun i _ h => OWN.out i h) (B4.out.trans (B45.out.mono B4.out.size)).size)); clear hD6 hF6 hr5 hb5))
          all_goals
            have BU := BU0.out
            have hD5 := HD6.out
            clear BU0 HD6 WRA KP SL
            have DN := Lib.hid (down_any hD5)
            have H5 := Lib.hid hD5
            rcases BU with ⟨c0, c1, c2, c3⟩ | ⟨c0, c1, c2, c3⟩
            · rw [c0]
              rw [c3] at DN
              have hd0 := Lib.hid (show 0 ≤ done ∧ done ≤ 40 from by rcases BN.out with ⟨_, _, h3, h4⟩ | ⟨_, h3, _⟩ <;> omega)
              have hd1 := hd0.out.1
              have hd2 := hd0.out.2
              have RR := Lib.hid (show FuRel w F d g m L (.int .i64 ((j + 1 : Nat) : Int)) (.int .i64 (done + 1)) w6 from ⟨j + 1, n + 1, done + 1, _, rfl, rfl, by omega, by omega, c2, IN.out, LL.out, H5.out, B5.out⟩)
              clear hD5 c0 c2 c3
              go_wp2_with fail
              refine DN.out.mono ?_
              rintro e w' ⟨rfl, rfl⟩
              go_wp2_with fail
              exact ⟨RR.out, by simp [intOf]; omega⟩
            · rw [c0]
              rw [c3] at DN
              have c1' : ¬ done < F := by omega
              have RR := Lib.hid (show FuRel w F d g m L (.int .i64 ((j + 1 : Nat) : Int)) (.int .i64 done) w6 from ⟨j + 1, n + 1, done, _, rfl, rfl, by omega, by omega, c2, IN.out, LL.out, H5.out, B5.out⟩)
              clear hD5 c0 c1 c2 c3
              go_wp2_with fail
              refine DN.out.mono ?_
              rintro e w' ⟨rfl, rfl⟩
              go_wp2_with fail
              exact ⟨RR.out, by simp [intOf]; omega⟩
        · have hp1 : p.n ≤ 0 := by omega
          have he : (if 0 < p.n then p.n else 0).tmod 4 = 0 := by rw [if_neg hp0]; rfl
          have HE := Lib.hid he
          have HT0 := Lib.hid (show 0 ≤ (0 : Int) ∧ (0 : Int) < 4 from ⟨by decide, by decide⟩)
          have WRE := Lib.hid (show ∀ (W : World) (k : Nat), Below w4.heap.size w4 W → w4.heap.size ≤ k → W.heap[k]? = some (.cells (bvs (pad p.data)).toArray 5 (0, 0)) → Calls Try.prog 49 #[.pointer (some ⟨d, 0, none⟩), .int .i64 ((if 0 < p.n then p.n else 0).tmod 4), .slice (some ⟨k, 0, none⟩) 128 128] W fun e w' => e = .returned (.int .i64 (z.wcode 0 128)) ∧ DiskAt Try.prog w' d g m (n + 1) (z.write 0 (pad p.data)) ∧ Frm (own3 d g m) W w' from fun W k hW hk hr => by rw [he]; exact WRA.out 0 HT0.out W k hW hk hr)
          clear he
          have BU0 := Lib.hid (burn_write (i := 0) BN.out (by simp [DS.has, HS4.out]) (pad_length p.data))
          have LL := Lib.hid (show (z.write (0) (pad p.data)).s.length = 4 by rw [z.write_len]; exact HS4.out)
          have IN := Lib.hid (DS.inside_write HIN.out (0) (pad p.data))
          go_region_held3 (fun w' => w'.cell? ⟨q, 1, none⟩ = some (.int .i64 p.n) ∧ w'.cell? ⟨q, 5, none⟩ = some (.slice p.ao p.data.length p.cap))
            (first
              | exact KP.out _ rfl
              | exact KP.out _ K5.out
              | exact KP.out _ K6.out)
            (first
              | (go_at_call 50; (with_reducible refine (sector_any SL.out).mono ?_); rintro e w5 ⟨v, rfl, ⟨k, rfl, hk5, hr5, hl5⟩, hb5⟩; have K5 := Lib.hid (hb5.block q QL.out); have B45 := Lib.hid ((Below.refl w4.heap.size w4).drew.trans hb5); have HR5 := Lib.hid hr5; have K55 : w4.heap.size ≤ k := hk5)
              | (go_at_call 49; (with_reducible refine (WRA.out 0 HT0.out w5 k B45.out K55 HR5.out).mono ?_); rintro e w6 ⟨rfl, hD6, hF6⟩; have K6 := Lib.hid ((hF6.block q (Nat.lt_of_lt_of_le QL.out B45.out.size) NQ.out).trans K5.out); have HD6 := Lib.hid hD6; have B5 := Lib.hid ((B4.out.trans (B45.out.mono B4.out.size)).trans (hF6.below (fun i _ h => OWN.out i h) (B4.out.trans (B45.out.mono B4.out.size)).size)); clear hD6 hF6 hr5 hb5)
              | (go_at_call 49; (with_reducible refine (WRE.out w5 k B45.out K55 HR5.out).mono ?_); rintro e w6 ⟨rfl, hD6, hF6⟩; have K6 := Lib.hid ((hF6.block q (Nat.lt_of_lt_of_le QL.out B45.out.size) NQ.out).trans K5.out); have HD6 := Lib.hid hD6; have B5 := Lib.hid ((B4.out.trans (B45.out.mono B4.out.size)).trans (hF6.below (fun i _ h => OWN.out i h) (B4.out.trans (B45.out.mono B4.out.size)).size)); clear hD6 hF6 hr5 hb5))
          all_goals
            have BU := BU0.out
            have hD5 := HD6.out
            clear BU0 HD6 WRA WRE KP SL
            have DN := Lib.hid (down_any hD5)
            have H5 := Lib.hid hD5
            rcases BU with ⟨c0, c1, c2, c3⟩ | ⟨c0, c1, c2, c3⟩
            · rw [c0]
              rw [c3] at DN
              have hd0 := Lib.hid (show 0 ≤ done ∧ done ≤ 40 from by rcases BN.out with ⟨_, _, h3, h4⟩ | ⟨_, h3, _⟩ <;> omega)
              have hd1 := hd0.out.1
              have hd2 := hd0.out.2
              have RR := Lib.hid (show FuRel w F d g m L (.int .i64 ((j + 1 : Nat) : Int)) (.int .i64 (done + 1)) w6 from ⟨j + 1, n + 1, done + 1, _, rfl, rfl, by omega, by omega, c2, IN.out, LL.out, H5.out, B5.out⟩)
              clear hD5 c0 c2 c3
              go_wp2_with fail
              refine DN.out.mono ?_
              rintro e w' ⟨rfl, rfl⟩
              go_wp2_with fail
              exact ⟨RR.out, by simp [intOf]; omega⟩
            · rw [c0]
              rw [c3] at DN
              have c1' : ¬ done < F := by omega
              have RR := Lib.hid (show FuRel w F d g m L (.int .i64 ((j + 1 : Nat) : Int)) (.int .i64 done) w6 from ⟨j + 1, n + 1, done, _, rfl, rfl, by omega, by omega, c2, IN.out, LL.out, H5.out, B5.out⟩)
              clear hD5 c0 c1 c2 c3
              go_wp2_with fail
              refine DN.out.mono ?_
              rintro e w' ⟨rfl, rfl⟩
              go_wp2_with fail
              exact ⟨RR.out, by simp [intOf]; omega⟩
    · obtain rfl : j = L.length := by omega
      have RD := Lib.hid (read_any HD.out 0 (by unfold wfi; decide))
      have DN := Lib.hid (down_any HD.out)
      have UP := Lib.hid (up_any HD.out)
      have rc := Lib.hid (read_code HS4.out)
      cases hdn : z.down with
      | false =>
        have e1 : (z.read 0).2 = 0 := by rw [rc.out, hdn]; rfl
        have e2 : z.up = z := by unfold DS.up; rw [hdn]; rfl
        rw [hdn] at DN
        rw [e1] at RD
        rw [e2] at UP
        clear e1 e2 hD hB
        go_wp2_with fail
        refine RD.out.mono ?_
        rintro e w4 ⟨v, rfl, _, hb4⟩
        have hD4 := HD.out.below hb4 (Nat.le_refl _)
        have B4 := Lib.hid (HB.out.trans (hb4.mono HB.out.size))
        have DN4 := Lib.hid (down_any hD4)
        have UP4 := Lib.hid (up_any hD4)
        rw [hdn] at DN4
        rw [show z.up = z from by unfold DS.up; rw [hdn]; rfl] at UP4
        clear hD4 hb4 RD DN UP
        go_wp2_with fail
        refine DN4.out.mono ?_
        rintro e w' ⟨rfl, rfl⟩
        go_wp2_with fail
        refine DN4.out.mono ?_
        rintro e w' ⟨rfl, rfl⟩
        go_wp2_with fail
        refine UP4.out.mono ?_
        rintro e w5 ⟨rfl, hD5, hF5⟩
        have B5 := Lib.hid (B4.out.trans (hF5.below (fun i _ h => OWN.out i h) B4.out.size))
        have DN5 := Lib.hid (down_any hD5)
        rw [hdn] at DN5
        clear hD5 hF5 UP4 DN4
        go_wp2_with fail
        refine DN5.out.mono ?_
        rintro e w' ⟨rfl, rfl⟩
        go_wp2_with fail
        go_ret
        exact ⟨rfl, B5.out⟩
      | true =>
        have e1 : (z.read 0).2 = 50 := by rw [rc.out, hdn]; rfl
        have hfz : z.fuse = -1 := by rcases BN.out with ⟨h1, _⟩ | ⟨_, _, h1⟩; · rw [hdn] at h1; cases h1
                                     · exact h1
        have HU := Lib.hid (show z.up.down = false ∧ z.up.fuse = -1 ∧ z.up.s.length = 4 ∧ z.up.inside from by
          unfold DS.up
          rw [if_pos hdn]
          exact ⟨rfl, hfz, HS4.out, fun i l _ h => by cases h⟩)
        rw [e1] at RD
        clear e1 hD hB hfz
        go_wp2_with fail
        refine RD.out.mono ?_
        rintro e w4 ⟨v, rfl, _, hb4⟩
        have hD4 := HD.out.below hb4 (Nat.le_refl _)
        have B4 := Lib.hid (HB.out.trans (hb4.mono HB.out.size))
        have DN4 := Lib.hid (down_any hD4)
        have UP4 := Lib.hid (up_any hD4)
        rw [hdn] at DN4
        clear hD4 hb4 RD DN UP
        go_wp2_with fail
        refine DN4.out.mono ?_
        rintro e w' ⟨rfl, rfl⟩
        go_wp2_with fail
        refine DN4.out.mono ?_
        rintro e w' ⟨rfl, rfl⟩
        go_wp2_with fail
        refine UP4.out.mono ?_
        rintro e w5 ⟨rfl, hD5, hF5⟩
        generalize z.up = y at *
        have B5 := Lib.hid (B4.out.trans (hF5.below (fun i _ h => OWN.out i h) B4.out.size))
        have DN5 := Lib.hid (down_any hD5)
        have HD5 := Lib.hid hD5
        have FULL := Lib.hid (show ∀ w, Calls Try.prog 58 #[.int .u8 1] w fun e w' => ∃ v, e = .returned v ∧ Own w w' v (List.replicate 128 1) ∧ Below w.heap.size w w' from fun w => full_any 1 w)
        obtain ⟨b1, hb1⟩ : ∃ b, b = List.replicate 128 (1 : UInt8) := ⟨_, rfl⟩
        rw [← hb1] at FULL
        have BL := Lib.hid (show b1.length = 128 by rw [hb1]; simp)
        rw [HU.out.1] at DN5
        clear hD5 hF5 UP4 DN4 hb1
        go_wp2_with fail
        refine DN5.out.mono ?_
        rintro e w' ⟨rfl, rfl⟩
        go_wp2_with fail
        refine (FULL.out _).mono ?_
        rintro e w6 ⟨v, rfl, ⟨k, rfl, hk, hrow, hlen⟩, hb6⟩
        have hD6 := HD5.out.below hb6 (Nat.le_refl _)
        have W1 := Lib.hid (write_own hD6 (by unfold maxLen; omega) 0 (by unfold wfi; decide) ⟨k, rfl, hrow, hlen, fun h => by have := h.elim (fun h => h ▸ HD5.out.dlt) (fun h => h.elim (fun h => h ▸ HD5.out.glt) (fun h => h ▸ HD5.out.mlt)); omega⟩)
        have wc : y.wcode 0 128 = 0 := by simp [DS.wcode, DS.has, HU.out.1, HU.out.2.1, HU.out.2.2.1]
        rw [wc] at W1
        have HV := Lib.hid (show (y.write 0 b1).fcode = 0 from by
          have h1 := HU.out.1
          have h2 := HU.out.2.1
          have h3 := HU.out.2.2.1
          simp [DS.fcode, DS.write, DS.spend, DS.has, h1, h2, h3, BL.out])
        have IN := Lib.hid (DS.inside_write HU.out.2.2.2 0 b1)
        have B6 := Lib.hid (B5.out.trans (hb6.mono B5.out.size))
        clear hD6 hb6 hrow hlen DN5 FULL wc
        go_wp2_with fail
        refine W1.out.mono ?_
        rintro e w7 ⟨rfl, hD7, hF7⟩
        have FL := Lib.hid (flush_any hD7 IN.out)
        rw [HV.out] at FL
        have B7 := Lib.hid (B6.out.trans (hF7.below (fun i _ h => OWN.out i h) B6.out.size))
        clear hD7 hF7 W1
        go_wp2_with fail
        refine FL.out.mono ?_
        rintro e w8 ⟨rfl, hD8, hF8⟩
        have B8 := Lib.hid (B7.out.trans (hF8.below (fun i _ h => OWN.out i h) B7.out.size))
        clear hD8 hF8 FL
        go_wp2_with fail
        go_ret
        exact ⟨rfl, B8.out⟩
end Go.Proofs.Ytecjhhljjddcmaa.Dk
