/- The walk of EventErases. -/
import Derived.Test.YtgdoolchmimgbaaGreatDoorIV
import Derived.Test.YtgdoolchmimgbaaGreatDoorIO
import Derived.Test.YtgdoolchmimgbaaGreatDoorG2
import Derived.Test.YtgdoolchmimgbaaGreatDoorGQ
namespace Go.Proofs.YtgdoolchmimgbaaGreatDoor.Wi
open Go Go.RowKit
set_option linter.unusedVariables false
set_option linter.unusedSimpArgs false
def ckERel (w3 : World) (l : List Ev) (i : Value) (wr : World) : Prop := ∃ j : Nat, i = .int .i64 (j : Int) ∧ j ≤ l.length ∧ (∀ x ∈ l.take j, x.vE = 0) ∧ Below w3.heap.size w3 wr
def kpRel (w5 : World) (l Y : List Ev) (kv i : Value) (wr : World) : Prop := ∃ j k : Nat, i = .int .i64 (j : Int) ∧ kv = .int .i64 (k : Int) ∧ j ≤ l.length ∧ k ≤ Y.length ∧ (erE 1 l).drop k = erE ((k : Int) + 1) (l.drop j) ∧ Below w5.heap.size w5 wr
def agRel (w8 : World) (n : Nat) (i : Value) (wr : World) : Prop := ∃ j : Nat, i = .int .i64 (j : Int) ∧ j ≤ n ∧ Below w8.heap.size w8 wr
theorem take_vE {l : List Ev} {j : Nat} {x : Ev} (hx : l[j]? = some x) (h : ∀ y ∈ l.take j, y.vE = 0) (e : x.vE = 0) : ∀ y ∈ l.take (j + 1), y.vE = 0 := by
  intro y hy
  rw [List.take_add_one, hx] at hy
  rcases List.mem_append.1 hy with hy | hy
  · exact h y hy
  · have : y = x := by simpa using hy
    rw [this]; exact e
theorem drop_x {l : List Ev} {j : Nat} {x : Ev} (hx : l[j]? = some x) : l.drop j = x :: l.drop (j + 1) := by
  have hjl := (List.getElem?_eq_some_iff.1 hx).1
  rw [List.drop_eq_getElem_cons hjl]
  rw [List.getElem?_eq_getElem hjl] at hx
  injection hx with hx
  rw [hx]
set_option maxHeartbeats 16000000 in
set_option maxRecDepth 100000 in
theorem eerases_any (ao : Option Addr) (c : Nat) (l : List Ev) (w : World) (hv : EL w.heap.size w ao l) (hg : EB w.heap.size w) :
    Calls Tryz.prog 8 #[.slice ao l.length c] w fun e w' => e = .returned (.bool true) ∧ Below w.heap.size w w' := by
  have CH := Lib.hid (tells_any w hg)
  have HV := Lib.hid hv
  clear hv hg
  go_enter Tryz.func8, Tryz.ntmps8
  go_wp2_with fail
  refine CH.out.mono ?_
  rintro e w2 ⟨rfl, hb2⟩
  have HB2 := Lib.hid hb2
  clear hb2 CH
  by_cases h20 : 20 < l.length
  · have h20' : (20 : Int) < (l.length : Int) := by omega
    go_wp2_with fail
    go_ret
    exact ⟨rfl, HB2.out⟩
  have h20' : ¬ (20 : Int) < (l.length : Int) := by omega
  have CS := Lib.hid (esmall_any ao c l w.heap.size w2 (HV.out.below HB2.out) HB2.out.size)
  go_wp2_with fail
  refine CS.out.mono ?_
  rintro e w3 ⟨⟨b, rfl⟩, hb3⟩
  have B03 := Lib.hid (HB2.out.trans (hb3.mono HB2.out.size))
  clear hb3 CS
  cases b
  · go_wp2_with fail
    go_ret
    exact ⟨rfl, B03.out⟩
  have HV3 := Lib.hid (HV.out.below B03.out)
  have R0 := Lib.hid (show ckERel w3 l (.int .i64 0) w3 from ⟨0, rfl, Nat.zero_le _, (fun x hx => by simp at hx), Below.refl _ _⟩)
  have hN3 := B03.out.size
  clear HB2
  go_wp2_with fail
  go_loopw [24] (fun i wr => ckERel w3 l i wr) (fun i _ => l.length - (intOf i).toNat)
  case atStart => exact R0.out
  case round =>
    obtain ⟨wq, rfl⟩ : ∃ wq : World, wq = wr := ⟨_, rfl⟩
    obtain ⟨j, rfl, hj, hall, hbq⟩ := hrel
    have q0 : (0 : Int) ≤ (j : Int) := by omega
    have HALL := Lib.hid hall
    have BQ := Lib.hid hbq
    clear hall hbq R0
    by_cases hjl : j < l.length
    · have q1 : (j : Int) < (l.length : Int) := by omega
      obtain ⟨x, hx⟩ : ∃ x, l[j]? = some x := ⟨_, List.getElem?_eq_getElem hjl⟩
      obtain ⟨hxv, ad, rfl, had, hxc⟩ := HV3.out.elem hx
      have nb := fun q (hq : q < w.heap.size) => BQ.out.block q (by omega)
      have KX := Lib.hid (hxc wq nb)
      have HX := Lib.hid hx
      obtain ⟨w5, hw5⟩ : ∃ bx, bx = wq.alloc (.cells x.cells.toArray 26) := ⟨_, rfl⟩
      obtain ⟨g5, hg5⟩ : ∃ bx, bx = wq.heap.size := ⟨_, rfl⟩
      have bw5 : Below wq.heap.size wq w5 := by rw [hw5]; exact (Below.refl _ _).alloc (Nat.le_refl _) _
      have nw5 : w5.heap[g5]? = some (.cells x.cells.toArray 26 (0, 0)) := by rw [hw5, hg5]; exact heap_alloc_new _ _
      have Kw5 := Lib.hid (rowE nw5)
      have Cw5 := Lib.hid (evC nw5)
      have Hw5 := Lib.hid hw5
      have Hg5 := Lib.hid hg5
      have Bw5 := Lib.hid bw5
      have Nw5 := Lib.hid nw5
      clear hw5 hg5 bw5 nw5
      have HXA := Lib.hid (show x.At w.heap.size w5 from hxv.keep fun k hk => (Bw5.out.block k (by have := BQ.out.size; omega)).trans (nb k hk))
      obtain ⟨E, hE⟩ : ∃ E, E = x.vE := ⟨_, rfl⟩
      have CG := rcheckE_any x w.heap.size w5 HXA.out (by have := BQ.out.size; have := Bw5.out.size; omega)
      rw [← hE] at CG
      have HCG := Lib.hid CG
      have HE := Lib.hid hE
      clear CG hE hxv had hxc hx nb
      go_wp2_with (first
        | (with_reducible show wpList _ _ _ _ _ _; refine wpList_load_allW rfl 26 (.tmp 26) rfl _ rfl x.cells _ KX.out Tryz.underlying26 rfl (Tryz.evSize x) ?_)
        | (with_reducible show wpList _ _ _ _ _ _; refine wpList_store_newW rfl 26 (.tmp 4) (.tmp 27) rfl 26 _ x.cells.toArray rfl rfl (Tryz.evSize' x) (by with_unfolding_all exact Ev.eleven x) x.cells_one ?_; rw [← Hw5.out, ← Hg5.out])
        | (with_reducible show wpList _ _ _ _ _ _; refine wpList_load_allW rfl 26 (.tmp 4) rfl ⟨g5,0,none⟩ rfl x.cells _ Kw5.out Tryz.underlying26 rfl (Tryz.evSize x) ?_))
      refine HCG.out.mono ?_
      rintro e w6 ⟨rfl, hb6⟩
      have BQ6 := Lib.hid (BQ.out.trans ((Bw5.out.trans (hb6.mono Bw5.out.size)).mono BQ.out.size))
      clear hb6
      by_cases hE0 : E = 0
      case neg =>
        have hE1 : (E != 0) = true := by simpa using hE0
        have RL := Lib.hid (B03.out.trans (BQ6.out.mono B03.out.size))
        go_wp2_with fail
        go_ret
        exact ⟨rfl, RL.out⟩
      subst hE0
      have RL := Lib.hid (show ckERel w3 l (.int .i64 ((j + 1 : Nat) : Int)) w6 from ⟨j + 1, rfl, hjl, take_vE HX.out HALL.out HE.out.symm, BQ6.out⟩)
      go_wp2_with fail
      exact ⟨RL.out, by simp [intOf]; omega⟩
    · have q1 : ¬ (j : Int) < (l.length : Int) := by omega
      have HVE := Lib.hid (show ∀ x ∈ l, x.vE = 0 from fun x hx => HALL.out x (by rwa [List.take_of_length_le (by omega)]))
      have B0q := Lib.hid (B03.out.trans (BQ.out.mono B03.out.size))
      have HVq := Lib.hid (HV3.out.keep fun k hk => BQ.out.block k (by omega))
      have HD := Lib.hid (show ∀ x ∈ l, x.val.dpr 65536 = false from fun x hx => (fine (Ev.fits (HVE.out x hx)).val.1).dpr)
      have CE := Lib.hid (eerase_any ao c l w.heap.size wq HVq.out HD.out (by omega) (by have := B0q.out.size; exact this))
      clear HALL HV3
      obtain ⟨jo, rfl⟩ : ∃ jo : Nat, jo = j := ⟨_, rfl⟩
      go_wp2_with fail
      refine CE.out.mono ?_
      rintro e w5 ⟨aY, cY, Y, rfl, hmY, heY, owY, hb5⟩
      have hY20 : Y.length ≤ 20 := by
        have h1 := congrArg List.length hmY
        rw [List.length_map, List.length_map] at h1
        have := erE_le l 1
        omega
      have MY := Lib.hid hmY
      have EY := Lib.hid (show ∀ y ∈ Y, y.At w5.heap.size w5 from fun y hy => (heY y hy).1)
      have OY := Lib.hid owY
      have LY := Lib.hid (el_own EY.out owY (by omega))
      have B05 := Lib.hid (B0q.out.trans (hb5.mono B0q.out.size))
      have HV5 := Lib.hid (HVq.out.below (hb5.mono B0q.out.size))
      have DY := Lib.hid (show ∀ y ∈ Y, y.val.dpr 65536 = false from fun y hy => by
        obtain ⟨x, hx, e⟩ := nz_mem hmY hy
        rw [← nz_dpr, e, nz_dpr]; exact HD.out x hx)
      have KNY := Lib.hid (show ∀ y ∈ Y, y.val.Kin from fun y hy => by
        obtain ⟨x, hx, e⟩ := nz_mem hmY hy
        rw [← nz_kin, e, nz_kin]; exact (fine (Ev.fits (HVE.out x hx)).val.1).kin)
      have R0 := Lib.hid (show kpRel w5 l Y (.int .i64 0) (.int .i64 0) w5 from ⟨0, 0, rfl, rfl, Nat.zero_le _, Nat.zero_le _, by simp, Below.refl _ _⟩)
      clear CE hmY heY owY hb5 HVq
      have hN5 := B05.out.size
      go_wp2_with fail
      go_loopw [6, 36] (fun kv i wr => kpRel w5 l Y kv i wr) (fun _ i _ => l.length - (intOf i).toNat)
      case atStart => exact R0.out
      case round =>
        obtain ⟨wo, rfl⟩ : ∃ wo : World, wo = wr := ⟨_, rfl⟩
        obtain ⟨j, k, rfl, rfl, hj, hk, hdr, hbo⟩ := hrel
        have q0 : (0 : Int) ≤ (j : Int) := by omega
        have p0 : (0 : Int) ≤ (k : Int) := by omega
        have HDR := Lib.hid hdr
        have BO := Lib.hid hbo
        clear hdr hbo R0
        by_cases hjl : j < l.length
        · have q1 : (j : Int) < (l.length : Int) := by omega
          obtain ⟨x, hx⟩ : ∃ x, l[j]? = some x := ⟨_, List.getElem?_eq_getElem hjl⟩
          obtain ⟨hxv, ad, rfl, had, hxc⟩ := HV5.out.elem hx
          have nb := fun q (hq : q < w.heap.size) => BO.out.block q (by omega)
          have KX := Lib.hid (hxc wo nb)
          have HX := Lib.hid hx
          obtain ⟨w6, hw6⟩ : ∃ bx, bx = wo.alloc (.cells x.cells.toArray 26) := ⟨_, rfl⟩
          obtain ⟨g6, hg6⟩ : ∃ bx, bx = wo.heap.size := ⟨_, rfl⟩
          have bw6 : Below wo.heap.size wo w6 := by rw [hw6]; exact (Below.refl _ _).alloc (Nat.le_refl _) _
          have nw6 : w6.heap[g6]? = some (.cells x.cells.toArray 26 (0, 0)) := by rw [hw6, hg6]; exact heap_alloc_new _ _
          have Kw6 := Lib.hid (rowE nw6)
          have Cw6 := Lib.hid (evC nw6)
          have Hw6 := Lib.hid hw6
          have Hg6 := Lib.hid hg6
          have Bw6 := Lib.hid bw6
          have Nw6 := Lib.hid nw6
          clear hw6 hg6 bw6 nw6
          have HXA := Lib.hid (show x.At w.heap.size w6 from hxv.keep fun k hk => (Bw6.out.block k (by have := BO.out.size; omega)).trans (nb k hk))
          have BO6 := Lib.hid (BO.out.trans (Bw6.out.mono BO.out.size))
          have c2 := Cw6.out.c2
          have c0 := Cw6.out.c0
          obtain ⟨kd, hkd⟩ : ∃ kd, kd = x.kind := ⟨_, rfl⟩
          rw [← hkd] at c2
          have HKD := Lib.hid hkd
          clear hxv had hxc hx nb hkd
          go_upto_region 16 with (first
            | (with_reducible show wpList _ _ _ _ _ _; refine wpList_load_allW rfl 26 (.tmp 38) rfl _ rfl x.cells _ KX.out Tryz.underlying26 rfl (Tryz.evSize x) ?_)
            | (with_reducible show wpList _ _ _ _ _ _; refine wpList_store_newW rfl 26 (.tmp 8) (.tmp 39) rfl 26 _ x.cells.toArray rfl rfl (Tryz.evSize' x) (by with_unfolding_all exact Ev.eleven x) x.cells_one ?_; rw [← Hw6.out, ← Hg6.out]))
          by_cases ht : eTask kd = true
          case pos =>
            have RL := Lib.hid (show kpRel w5 l Y (.int .i64 (k : Int)) (.int .i64 ((j + 1 : Nat) : Int)) w6 from ⟨j + 1, k, rfl, rfl, hjl, hk, by
              rw [HDR.out, drop_x HX.out, erE, if_pos (by rw [← HKD.out]; exact ht)], BO6.out⟩)
            have hc : kd = 2 ∨ kd = 3 ∨ kd = 5 ∨ kd = 6 := by
              unfold eTask at ht
              simp only [Bool.or_eq_true, beq_iff_eq] at ht
              omega
            clear ht c0
            rcases hc with h | h | h | h
            iterate 4
              subst h
              go_wp2_with fail
              exact ⟨RL.out, by simp [intOf]; omega⟩
          case neg =>
            have ht' : eTask kd = false := by simpa using ht
            obtain ⟨y, hy, hyz, hdr2⟩ := er_next MY.out HDR.out (drop_x HX.out) (by rw [← HKD.out]; exact ht')
            have hkY : k < Y.length := (List.getElem?_eq_some_iff.1 hy).1
            obtain ⟨gY, hgY, _, hgYl, hgc⟩ := own_cellK OY.out (j := k * 11) (u := .int .i64 y.id) (ecs_at Y k y hy 0 _ rfl)
            subst hgY
            obtain ⟨hyA, ay, hay0, hay, hyc⟩ := LY.out.elem hy
            injection hay0 with hay0
            subst hay0
            have hyid : y.id = (k : Int) + 1 := (Ev.ext_nz.1 hyz).1
            have KY := Lib.hid (show ∀ (j : Nat) v, y.cells[j]? = some v → w6.cell? ((⟨gY, k * 11, none⟩ : Addr).add j) = some v from fun j v hj => by
              have h := hyc w6 (fun q hq => BO6.out.block q hq) j v hj
              rwa [Addr.add_mid, Nat.zero_add] at h)
            have k1 : ¬ (Y.length : Int) ≤ (k : Int) := by omega
            have k2 : (k : Int) < (Y.length : Int) := by omega
            have n2 : (kd == 2) = false := by cases h : (kd == 2) with | false => rfl | true => rw [eTask, h] at ht'; simp at ht'
            have n3 : (kd == 3) = false := by cases h : (kd == 3) with | false => rfl | true => rw [eTask, h] at ht'; simp at ht'
            have n5 : (kd == 5) = false := by cases h : (kd == 5) with | false => rfl | true => rw [eTask, h] at ht'; simp at ht'
            have n6 : (kd == 6) = false := by cases h : (kd == 6) with | false => rfl | true => rw [eTask, h] at ht'; simp at ht'
            have cy : w6.cell? ⟨gY, k * 11, none⟩ = some (.int .i64 ((k : Int) + 1)) := by
              rw [← hyid]
              have h := KY.out 0 _ rfl
              rwa [Addr.add_mid, Nat.add_zero] at h
            have MEMY := Lib.hid (List.mem_of_getElem? hy)
            have HYA := Lib.hid hyA
            have HYZ := Lib.hid hyz
            have HDR2 := Lib.hid hdr2
            clear ht ht' hy hyz hdr2 hyA hay hyc hyid hgc hgYl
            skip
            obtain ⟨w7, hw7⟩ : ∃ bx, bx = w6.alloc (.cells y.cells.toArray 26) := ⟨_, rfl⟩
            obtain ⟨g7, hg7⟩ : ∃ bx, bx = w6.heap.size := ⟨_, rfl⟩
            have bw7 : Below w6.heap.size w6 w7 := by rw [hw7]; exact (Below.refl _ _).alloc (Nat.le_refl _) _
            have nw7 : w7.heap[g7]? = some (.cells y.cells.toArray 26 (0, 0)) := by rw [hw7, hg7]; exact heap_alloc_new _ _
            have Kw7 := Lib.hid (rowE nw7)
            have Cw7 := Lib.hid (evC nw7)
            have Hw7 := Lib.hid hw7
            have Hg7 := Lib.hid hg7
            have Bw7 := Lib.hid bw7
            have Nw7 := Lib.hid nw7
            clear hw7 hg7 bw7 nw7
            go_upto_region 20 with (first
              | (with_reducible show wpList _ _ _ _ _ _; refine wpList_load_allW rfl 26 (.tmp 74) rfl _ rfl y.cells _ KY.out Tryz.underlying26 rfl (Tryz.evSize y) ?_)
              | (with_reducible show wpList _ _ _ _ _ _; refine wpList_store_newW rfl 26 (.tmp 9) (.tmp 75) rfl 26 _ y.cells.toArray rfl rfl (Tryz.evSize' y) (by with_unfolding_all exact Ev.eleven y) y.cells_one ?_; rw [← Hw7.out, ← Hg7.out]))
            have Nx7 := Lib.hid ((Bw7.out.block g6 (lt_of_rowK Nw6.out)).trans Nw6.out)
            have d0 := (evC Nx7.out).c0
            have cc := Cw7.out.c0
            have fz : w7.frozen? ⟨g7, 0, none⟩ = false := EvRow.frz Nw7.out 0
            clear c0 c2 cy
            go_upto_region 21 with fail
            clear d0 cc fz
            obtain ⟨w8, hw8⟩ : ∃ w8, w8 = w7.setCell ⟨g7, 0, none⟩ (.int .i64 x.id) := ⟨_, rfl⟩
            rw [← hw8]
            obtain ⟨z, hz⟩ : ∃ z : Ev, z = { y with id := x.id } := ⟨_, rfl⟩
            have R8 := Lib.hid (show EvRow w8 g7 z by rw [hw8, hz]; exact EvRow.setId Nw7.out x.id)
            have B68 := Lib.hid (show Below w6.heap.size w6 w8 by rw [hw8]; exact Bw7.out.setCell (p := ⟨g7, 0, none⟩) (by have := Hg7.out; show w6.heap.size ≤ g7; omega) _)
            have KZ := Lib.hid (rowE R8.out)
            have KX8 := Lib.hid (rowEB (x := x) Nw6.out B68.out)
            have B58 := Lib.hid (BO6.out.trans (B68.out.mono BO6.out.size))
            have hyA8 := (HYA.out.below B58.out).mono B58.out.size
            have HZA := Lib.hid (show z.At w8.heap.size w8 by rw [hz]; exact ⟨HXA.out.id, hyA8.time, hyA8.kind, hyA8.a, hyA8.b, hyA8.name, hyA8.text, hyA8.val⟩)
            have HXA8 := Lib.hid (show x.At w8.heap.size w8 from (HXA.out.below (B68.out.mono (by have := BO6.out.size; omega))).mono (by have := B58.out.size; omega))
            have hzk : z.val.Kin := by rw [hz]; exact KNY.out y MEMY.out
            have hxk : x.val.Kin := (fine (Ev.fits (HVE.out x (List.mem_of_getElem? HX.out))).val.1).kin
            have hsm : z.same x = true := (Ev.same_nz hzk).2 (by
              have h := Ev.ext_nz.1 HYZ.out
              rw [hz]
              exact Ev.ext_nz.2 ⟨rfl, h.2⟩)
            have SM := rsame_any z x hzk hxk w8.heap.size w8 HZA.out HXA8.out (Nat.le_refl _)
            rw [hsm] at SM
            have HSM := Lib.hid SM
            clear hw8 hz hyA8 hzk hxk hsm SM
            go_wp2_with (first | (with_reducible show wpList _ _ _ _ _ _; refine wpList_load_allW rfl 26 (.tmp 9) rfl ⟨g7,0,none⟩ rfl z.cells _ KZ.out Tryz.underlying26 rfl (Tryz.evSize z) ?_) | (with_reducible show wpList _ _ _ _ _ _; refine wpList_load_allW rfl 26 (.tmp 8) rfl ⟨g6,0,none⟩ rfl x.cells _ KX8.out Tryz.underlying26 rfl (Tryz.evSize x) ?_))
            refine HSM.out.mono ?_
            rintro e w9 ⟨rfl, hb9⟩
            have RL := Lib.hid (show kpRel w5 l Y (.int .i64 ((k + 1 : Nat) : Int)) (.int .i64 ((j + 1 : Nat) : Int)) w9 from ⟨j + 1, k + 1, rfl, rfl, hjl, hkY, HDR2.out, B58.out.trans (hb9.mono B58.out.size)⟩)
            clear hb9
            go_wp2_with fail
            exact ⟨RL.out, by simp [intOf]; omega⟩
        · have q1 : ¬ (j : Int) < (l.length : Int) := by omega
          obtain rfl : k = Y.length := er_end MY.out hk HDR.out (by omega)
          have LYo := Lib.hid (LY.out.below BO.out)
          have CE := Lib.hid (eerase_any aY cY Y w5.heap.size wo LYo.out DY.out (by omega) BO.out.size)
          obtain ⟨jo2, rfl⟩ : ∃ jo2 : Nat, jo2 = j := ⟨_, rfl⟩
          clear LYo HDR HV5
          go_wp2_with fail
          refine CE.out.mono ?_
          rintro e w8 ⟨aZ, cZ, Z, rfl, hmZ, heZ, owZ, hb8⟩
          have hmYZ := erE_again MY.out hmZ
          have hZl : Z.length = Y.length := by
            have h1 := congrArg List.length hmYZ
            simpa using h1
          rw [hZl] at owZ ⊢
          have OZ := Lib.hid owZ
          have MYZ := Lib.hid hmYZ
          have EZ := Lib.hid (show ∀ z ∈ Z, z.At w8.heap.size w8 from fun z hz => (heZ z hz).1)
          have B58 := Lib.hid (BO.out.trans (hb8.mono BO.out.size))
          have B08 := Lib.hid (B05.out.trans (B58.out.mono B05.out.size))
          have OY8 := Lib.hid (own_belowK OY.out B58.out)
          have EY8 := Lib.hid (show ∀ y ∈ Y, y.At w8.heap.size w8 from fun y hy => ((EY.out y hy).below B58.out).mono B58.out.size)
          have R0 := Lib.hid (show agRel w8 Y.length (.int .i64 0) w8 from ⟨0, rfl, Nat.zero_le _, Below.refl _ _⟩)
          clear CE hmZ heZ owZ hb8 hmYZ
          have hbne : ((Y.length : Int) != (Y.length : Int)) = false := by simp
          go_wp2_with fail
          go_loopw [100] (fun i wr => agRel w8 Y.length i wr) (fun i _ => Y.length - (intOf i).toNat)
          case atStart => exact R0.out
          case round =>
            obtain ⟨wp, rfl⟩ : ∃ wp : World, wp = wr := ⟨_, rfl⟩
            obtain ⟨j, rfl, hj, hbp⟩ := hrel
            have q0 : (0 : Int) ≤ (j : Int) := by omega
            have BP := Lib.hid hbp
            clear hbp R0
            by_cases hjl : j < Y.length
            · have q1 : (j : Int) < (Y.length : Int) := by omega
              obtain ⟨y, hy⟩ : ∃ y, Y[j]? = some y := ⟨_, List.getElem?_eq_getElem hjl⟩
              obtain ⟨z, hz⟩ : ∃ z, Z[j]? = some z := ⟨_, List.getElem?_eq_getElem (by omega)⟩
              have hyz : y.nz = z.nz := by
                have h := congrArg (fun q => q[j]?) MYZ.out
                try dsimp only at h
                rw [List.getElem?_map, List.getElem?_map, hy, hz] at h
                simpa using h.symm
              obtain ⟨gY, hgY, _, hgYl, _⟩ := own_cellK OY8.out (j := j * 11) (u := .int .i64 y.id) (ecs_at Y j y hy 0 _ rfl)
              obtain ⟨gZ, hgZ, _, hgZl, _⟩ := own_cellK OZ.out (j := j * 11) (u := .int .i64 z.id) (ecs_at Z j z hz 0 _ rfl)
              subst hgY hgZ
              have KY := Lib.hid (fun (W : World) (h : Below wp.heap.size wp W) => show ∀ (i : Nat) v, y.cells[i]? = some v → W.cell? ((⟨gY, j * 11, none⟩ : Addr).add i) = some v from fun i v hi => by
                obtain ⟨g', e, _, _, hc⟩ := own_cellK OY8.out (ecs_at Y j y hy i v hi)
                injection e with e
                injection e with e
                subst e
                rw [Addr.add_mid]
                exact (World.cell?_of_block (a := ⟨gY, j * 11 + i, none⟩) ((BP.out.trans (h.mono BP.out.size)).block gY hgYl)).trans hc)
              have KZ := Lib.hid (fun (W : World) (h : Below wp.heap.size wp W) => show ∀ (i : Nat) v, z.cells[i]? = some v → W.cell? ((⟨gZ, j * 11, none⟩ : Addr).add i) = some v from fun i v hi => by
                obtain ⟨g', e, _, _, hc⟩ := own_cellK OZ.out (ecs_at Z j z hz i v hi)
                injection e with e
                injection e with e
                subst e
                rw [Addr.add_mid]
                exact (World.cell?_of_block (a := ⟨gZ, j * 11 + i, none⟩) ((BP.out.trans (h.mono BP.out.size)).block gZ hgZl)).trans hc)
              have hyk := KNY.out y (List.mem_of_getElem? hy)
              have hzk : z.val.Kin := by rw [← nz_kin, ← (show y.val.nz = z.val.nz from congrArg Ev.val hyz), nz_kin]; exact hyk
              have hsm : y.same z = true := (Ev.same_nz hyk).2 hyz
              have SM := Lib.hid (fun (W : World) (h : Below wp.heap.size wp W) => show Calls Tryz.prog 20 #[.agg y.cells.toArray, .agg z.cells.toArray] W fun e w' => e = .returned (.bool true) ∧ Below W.heap.size W w' from by
                have hB := BP.out.trans (h.mono BP.out.size)
                have h2 := rsame_any y z hyk hzk w8.heap.size W ((EY8.out y (List.mem_of_getElem? hy)).below hB) ((EZ.out z (List.mem_of_getElem? hz)).below hB) hB.size
                rwa [hsm] at h2)
              clear hy hz hyz hgYl hgZl hyk hzk hsm
              go_upto_region 31 with fail
              refine wp_region_slotsG (by kernel_rfl) (by kernel_rfl)
                (fun y' => ⟨#[Value.slice ao l.length c, undef, u2, undef, u4, Value.slice (some { block := gY, off := 0 }) Y.length cY, Value.int IntKind.i64 ↑Y.length, undef, u8, u9, Value.slice (some { block := gZ, off := 0 }) Y.length cZ, Value.int IntKind.i64 ↑j, Value.bool true, Value.bool false, Value.slice ao l.length c, Value.int IntKind.i64 ↑l.length, Value.bool (decide ((20 : Int) < (l.length : Int))), Value.bool (decide ((20 : Int) < (l.length : Int))), Value.slice ao l.length c, Value.bool true, Value.bool false, Value.bool (decide ((20 : Int) < (l.length : Int))), Value.slice ao l.length c, Value.int IntKind.i64 ↑l.length, Value.int IntKind.i64 ↑jo, Value.bool false, u26, u27, u28, u29, u30, u31, Value.slice ao l.length c, Value.slice (some { block := gY, off := 0 }) Y.length cY, Value.slice ao l.length c, Value.int IntKind.i64 ↑l.length, Value.int IntKind.i64 ↑jo2, Value.bool false, u38, u39, u40, u41, u42, u43, u44, u45, u46, u47, u48, u49, u50, u51, u52, u53, u54, u55, u56, u57, u58, u59, u60, u61, u62, u63, u64, u65, u66, u67, u68, u69, u70, u71, u72, u73, u74, u75, u76, u77, u78, u79, u80, u81, u82, u83, u84, u85, Value.slice (some { block := gY, off := 0 }) Y.length cY, Value.slice (some { block := gZ, off := 0 }) Y.length cZ, Value.int IntKind.i64 ↑Y.length, Value.slice (some { block := gY, off := 0 }) Y.length cY, Value.int IntKind.i64 ↑Y.length, Value.bool false, Value.bool false, Value.slice (some { block := gZ, off := 0 }) Y.length cZ, Value.int IntKind.i64 ↑Y.length, Value.int IntKind.i64 ↑Y.length, Value.bool false, Value.bool false, Value.slice (some { block := gY, off := 0 }) Y.length cY, Value.int IntKind.i64 ↑Y.length, Value.int IntKind.i64 ↑j, Value.bool true, Value.int IntKind.i64 ↑j, y' 0, y' 1, y' 2, y' 3, y' 4, y' 5, y' 6, y' 7, y' 8, y' 9, u113], []⟩)
                (fun j' q W => match j' with | 0 => q = .slice (some ⟨gY, 0, none⟩) Y.length cY | 1 => q = .int .i64 (j : Int) | 2 => q = .pointer (some ⟨gY, j * 11, none⟩) | 3 => q = .agg y.cells.toArray | 4 => q = .slice (some ⟨gZ, 0, none⟩) Y.length cZ | 5 => q = .int .i64 (j : Int) | 6 => q = .pointer (some ⟨gZ, j * 11, none⟩) | 7 => q = .agg z.cells.toArray | 8 => q = .bool true | 9 => q = .bool false | _ => True)
                (fun L W => Below wp.heap.size wp W) (fun W W' => Below W.heap.size W W') ?_ ?_ ?_ (fun j' => match j' with | 0 => u103 | 1 => u104 | 2 => u105 | 3 => u106 | 4 => u107 | 5 => u108 | 6 => u109 | 7 => u110 | 8 => u111 | 9 => u112 | _ => undef) rfl (below_drewG (Below.refl _ _) 1)
              · intro j' q W W' hr hf
                match j', hf with
                | 0, h => exact h
                | 1, h => exact h
                | 2, h => exact h
                | 3, h => exact h
                | 4, h => exact h
                | 5, h => exact h
                | 6, h => exact h
                | 7, h => exact h
                | 8, h => exact h
                | 9, h => exact h
                | k + 10, _ => trivial
              · intro i' o ho L Y' wx hd hi' hx hs
                match i', ho with
                | 0, ho =>
                  obtain rfl := Option.some.inj ho
                  refine .inl ⟨rfl, ?_⟩
                  exact slot_run (v := .slice (some ⟨gY, 0, none⟩) Y.length cY) (w' := wx) rfl ⟨_, rfl, Below.refl _ _, rfl, hs⟩
                | 1, ho =>
                  obtain rfl := Option.some.inj ho
                  refine .inl ⟨rfl, ?_⟩
                  exact slot_run (v := .int .i64 (j : Int)) (w' := wx) rfl ⟨_, rfl, Below.refl _ _, rfl, hs⟩
                | 2, ho =>
                  obtain rfl := Option.some.inj ho
                  refine .inl ⟨rfl, ?_⟩
                  have y0 : Y' 0 = .slice (some ⟨gY, 0, none⟩) Y.length cY := hx 0 (hd ⟨0, .data⟩ (by simp) rfl)
                  have y1 : Y' 1 = .int .i64 (j : Int) := hx 1 (hd ⟨1, .data⟩ (by simp) rfl)
                  refine slot_run (v := .pointer (some ⟨gY, j * 11, none⟩)) (w' := wx) ?_ ⟨_, rfl, Below.refl _ _, rfl, hs⟩
                  refine runWithK (fun z' => match z' with | .tmp 103 => Y' 0 | .tmp 104 => Y' 1 | .const c => c | _ => undef) (by kernel_rfl) ?_
                  rw [y0, y1]
                  go_simp
                | 3, ho =>
                  obtain rfl := Option.some.inj ho
                  refine .inl ⟨rfl, ?_⟩
                  have y2 : Y' 2 = .pointer (some ⟨gY, j * 11, none⟩) := hx 2 (hd ⟨2, .data⟩ (by simp) rfl)
                  exact slot_loadK 26 (.tmp 105) rfl ⟨gY, j * 11, none⟩ (show _ = Value.pointer (some ⟨gY, j * 11, none⟩) by exact y2) y.cells _ (KY.out wx hs) Tryz.underlying26 rfl (Tryz.evSize y) ⟨_, rfl, Below.refl _ _, rfl, hs⟩
                | 4, ho =>
                  obtain rfl := Option.some.inj ho
                  refine .inl ⟨rfl, ?_⟩
                  exact slot_run (v := .slice (some ⟨gZ, 0, none⟩) Y.length cZ) (w' := wx) rfl ⟨_, rfl, Below.refl _ _, rfl, hs⟩
                | 5, ho =>
                  obtain rfl := Option.some.inj ho
                  refine .inl ⟨rfl, ?_⟩
                  exact slot_run (v := .int .i64 (j : Int)) (w' := wx) rfl ⟨_, rfl, Below.refl _ _, rfl, hs⟩
                | 6, ho =>
                  obtain rfl := Option.some.inj ho
                  refine .inl ⟨rfl, ?_⟩
                  have y4 : Y' 4 = .slice (some ⟨gZ, 0, none⟩) Y.length cZ := hx 4 (hd ⟨4, .data⟩ (by simp) rfl)
                  have y5 : Y' 5 = .int .i64 (j : Int) := hx 5 (hd ⟨5, .data⟩ (by simp) rfl)
                  refine slot_run (v := .pointer (some ⟨gZ, j * 11, none⟩)) (w' := wx) ?_ ⟨_, rfl, Below.refl _ _, rfl, hs⟩
                  refine runWithK (fun z' => match z' with | .tmp 107 => Y' 4 | .tmp 108 => Y' 5 | .const c => c | _ => undef) (by kernel_rfl) ?_
                  rw [y4, y5]
                  go_simp
                | 7, ho =>
                  obtain rfl := Option.some.inj ho
                  refine .inl ⟨rfl, ?_⟩
                  have y6 : Y' 6 = .pointer (some ⟨gZ, j * 11, none⟩) := hx 6 (hd ⟨6, .data⟩ (by simp) rfl)
                  exact slot_loadK 26 (.tmp 109) rfl ⟨gZ, j * 11, none⟩ (show _ = Value.pointer (some ⟨gZ, j * 11, none⟩) by exact y6) z.cells _ (KZ.out wx hs) Tryz.underlying26 rfl (Tryz.evSize z) ⟨_, rfl, Below.refl _ _, rfl, hs⟩
                | 8, ho =>
                  obtain rfl := Option.some.inj ho
                  refine .inl ⟨rfl, ?_⟩
                  have y3 : Y' 3 = .agg y.cells.toArray := hx 3 (hd ⟨3, .data⟩ (by simp) rfl)
                  have y7 : Y' 7 = .agg z.cells.toArray := hx 7 (hd ⟨7, .data⟩ (by simp) rfl)
                  refine slot_call #[.agg y.cells.toArray, .agg z.cells.toArray] rfl Tryz.func20 (by kernel_rfl) (by kernel_rfl) (by simp [Act.eval, y3, y7]) ?_
                  refine (SM.out wx hs).mono ?_
                  rintro e w' ⟨rfl, hb⟩
                  exact ⟨_, rfl, _, rfl, hb, rfl, hs.trans (hb.mono hs.size)⟩
                | 9, ho =>
                  obtain rfl := Option.some.inj ho
                  refine .inl ⟨rfl, ?_⟩
                  have y8 : Y' 8 = .bool true := hx 8 (hd ⟨8, .data⟩ (by simp) rfl)
                  refine slot_run (v := .bool false) (w' := wx) ?_ ⟨_, rfl, Below.refl _ _, rfl, hs⟩
                  refine runWithK (fun z' => match z' with | .tmp 111 => Y' 8 | .const c => c | _ => undef) (by kernel_rfl) ?_
                  rw [y8]
                  go_simp
                | k + 10, ho => simp at ho
              · intro L Y' wx hall hx hs
                have yz : Y' 9 = .bool false := hx 9 (hall 9 (by decide))
                rw [yz]
                have RL := Lib.hid (show agRel w8 Y.length (.int .i64 ((j + 1 : Nat) : Int)) wx from ⟨j + 1, rfl, hjl, BP.out.trans (hs.mono BP.out.size)⟩)
                go_wp2_with fail
                exact ⟨RL.out, by simp [intOf]; omega⟩
            · have q1 : ¬ (j : Int) < (Y.length : Int) := by omega
              have RL := Lib.hid (B08.out.trans (BP.out.mono B08.out.size))
              go_wp2_with fail
              go_ret
              exact ⟨rfl, RL.out⟩
end Go.Proofs.YtgdoolchmimgbaaGreatDoor.Wi
