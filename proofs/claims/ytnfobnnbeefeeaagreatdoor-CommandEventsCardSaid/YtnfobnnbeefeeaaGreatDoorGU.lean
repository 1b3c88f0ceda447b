/- Decode. -/
import Derived.Test.YtnfobnnbeefeeaaGreatDoorGT
import Derived.Test.YtnfobnnbeefeeaaGreatDoorG5
namespace Go.Proofs.YtnfobnnbeefeeaaGreatDoor.Wi
open Go Go.RowKit
set_option linter.unusedVariables false
set_option linter.unusedSimpArgs false
theorem ccs_app (l m : List Cm) : ccs (l ++ m) = ccs l ++ ccs m := by simp [ccs]
theorem ccs_sing (x : Cm) : ccs [x] = x.cells := by simp [ccs]
theorem ccs_hd (x : Cm) (l : List Cm) : (ccs (x :: l))[0]? = some (.int .i64 x.kind) := by simp [ccs, Cm.cells]
theorem Tryz.infoCmd : (Tryz.prog.info? 42).map (fun i => (i.zero, i.size, i.bytes)) = some (some (.agg #[.int .i64 0, .int .i64 0, .int .i64 0, .int .i64 0, .string ⟨#[]⟩, .int .i64 0, .int .i64 0, .string ⟨#[]⟩, .slice none 0 0]), 9, 104) := by kernel_rfl
theorem CL.ofOwn {w : World} {B n c : Nat} {ao : Option Addr} {l : List Cm} (h : w.ownsRow B 42 9 (.slice ao n c) n (ccs l)) (hl : l.length ≤ 140737488355328) (hat : ∀ x ∈ l, x.At w.heap.size w) : CL w.heap.size w ao l := by
  refine ⟨hat, fun hne => ?_, hl⟩
  obtain ⟨x, t, rfl⟩ : ∃ x t, l = x :: t := by
    cases l with
    | nil => exact absurd rfl hne
    | cons x t => exact ⟨x, t, rfl⟩
  obtain ⟨g, rfl, hB, hg, _⟩ := own_cellK h (ccs_hd x t)
  refine ⟨_, rfl, hg, fun j v hj => ?_⟩
  obtain ⟨g', e, _, _, hc⟩ := own_cellK h hj
  injection e with e
  injection e with e
  rw [Addr.add_mid, Nat.zero_add, e]
  exact hc
def DccPost (w : World) (X : List Cm × Int) (e : Ending) (w' : World) : Prop :=
  ∃ (ao : Option Addr) (c : Nat) (l : List Cm), e = .returned (.tuple #[.slice ao l.length c, .int .i64 X.2]) ∧ l.map Cm.nz = X.1 ∧ CL w'.heap.size w' ao l ∧ Below w.heap.size w w'
def dcRel (w2 : World) (b : Nat) (r : Option Nat) (xs : List UInt8) (n : Nat) (X : List Cm × Nat × Int) (lv i : Value) (wr : World) : Prop :=
  ∃ (j : Nat) (Y : List Cm) (ao : Option Addr) (c k : Nat) (e : Int), i = .int .u64 (j : Int) ∧ j ≤ n ∧ Y.length = j ∧ lv = .slice ao Y.length c ∧
    X = (Y.map Cm.nz ++ (crL xs (n - j) k e).1, (crL xs (n - j) k e).2) ∧ wr.ownsRow w2.heap.size 42 9 (.slice ao Y.length c) Y.length (ccs Y) ∧
    (∀ y ∈ Y, y.At wr.heap.size wr) ∧ (∀ y ∈ Y.map Cm.val, y.At wr.heap.size wr ∧ y.In (w2.heap.size ≤ ·) ∧ y.In (fun k => some k ≠ (Value.slice ao Y.length c).ownBlock)) ∧ Rd wr b r xs k e ∧ Fr w2 wr b none
theorem crL_step {xs : List UInt8} {m k : Nat} {e : Int} {Y : List Cm} {X : List Cm × Nat × Int} (h : X = (Y ++ (crL xs (m + 1) k e).1, (crL xs (m + 1) k e).2)) :
    X = ((Y ++ [(crR xs k e).1]) ++ (crL xs m (crR xs k e).2.1 (crR xs k e).2.2).1, (crL xs m (crR xs k e).2.1 (crR xs k e).2.2).2) := by
  rw [h, crL]
  simp
set_option maxHeartbeats 16000000 in
set_option maxRecDepth 100000 in
theorem cdecode_any {w : World} {ao : Option Addr} {c : Nat} {xs : List UInt8} (hS : Sl w (.slice ao xs.length c) xs) (hsz : xs.length ≤ 140737488355328) (he : CB w.heap.size w) :
    Calls Tryz.prog 25 #[.slice ao xs.length c] w (DccPost w (dcC xs)) := by
  obtain ⟨i0, hi0, hz0, hz1, hz2⟩ := info_parts Tryz.infoCmd
  have HI := Lib.hid (And.intro hi0 (And.intro hz0 (And.intro hz1 hz2)))
  clear hi0 hz0 hz1 hz2
  have RS := Lib.hid (read_sl hS hsz)
  have HE := Lib.hid he
  obtain ⟨X, hX⟩ : ∃ X, X = dcC xs := ⟨_, rfl⟩
  rw [← hX]
  unfold dcC at hX
  dsimp only at hX
  obtain ⟨h0, hh0⟩ : ∃ h, h = rn xs 0 0 256 := ⟨_, rfl⟩
  rw [← hh0] at hX
  have hn := rn_leE xs 0 0 256
  rw [← hh0] at hn
  obtain ⟨n, kn, en⟩ := h0
  dsimp only at hX hn
  obtain ⟨L, hL⟩ : ∃ L, L = crL xs n kn en := ⟨_, rfl⟩
  rw [← hL] at hX
  have HX := Lib.hid hX
  have HH := Lib.hid hh0
  have HLX := Lib.hid hL
  have HSZ := Lib.hid hsz
  obtain ⟨m, hm⟩ : ∃ m, m = xs.length := ⟨_, rfl⟩
  rw [← hm] at RS ⊢
  clear hX hh0 hL hS hsz he hm
  go_enter Tryz.func25, Tryz.ntmps25
  go_wp2_with fail
  refine RS.out.mono ?_
  rintro q w2 ⟨b, r, rfl, hR2, hb2, hbw, hrw⟩
  have HB2 := Lib.hid hb2
  have HBW := Lib.hid hbw
  have HLT := Lib.hid (And.intro hR2.lt hR2.rlt)
  have NT := Lib.hid (rnum_any hR2 HSZ.out 256 (by decide))
  rw [← HH.out] at NT
  clear hR2 hb2 hbw hrw
  go_wp2_with fail
  refine NT.out.mono ?_
  rintro q w3 ⟨rfl, hR3, hF3⟩
  dsimp only at hR3 ⊢
  have R0 := Lib.hid (show dcRel w2 b r xs n L (.slice none 0 0) (.int .u64 0) w3 from ⟨0, [], none, 0, kn, en, rfl, Nat.zero_le _, rfl, rfl, by rw [HLX.out]; rfl, World.ownsRow_nil _ _ _ _, (fun y hy => by cases hy), (fun y hy => by cases hy), hR3, hF3⟩)
  clear hR3 hF3 NT
  have n1 : (n : Int) ≤ 256 := by omega
  have n0 : (0 : Int) ≤ (n : Int) := by omega
  go_wp2_with fail
  go_loopw [5, 11] (fun lv i wr => dcRel w2 b r xs n L lv i wr) (fun _ i _ => n - (intOf i).toNat)
  case atStart => exact R0.out
  case round =>
    obtain ⟨wq, rfl⟩ : ∃ wq : World, wq = wr := ⟨_, rfl⟩
    obtain ⟨j, Y, ao, c, k', e', rfl, hjn, hYj, rfl, hX', own, hat, hel, hRq, hFq⟩ := hrel
    have q0 : (0 : Int) ≤ (j : Int) := by omega
    have BQ := Lib.hid (fr_new HB2.out HB2.out.size hFq HBW.out (fun g hg => by cases hg))
    have HRq := Lib.hid hRq
    have HFq := Lib.hid hFq
    have HX2 := Lib.hid hX'
    have OWN := Lib.hid own
    have HEL := Lib.hid hel
    have HAT := Lib.hid hat
    have HYJ := Lib.hid hYj
    clear R0 hRq hFq hX' own hel hat hYj
    by_cases hj : j < n
    · have q1 : (j : Int) < (n : Int) := by omega
      have VC := Lib.hid (cread_any (N := w.heap.size) HRq.out HSZ.out (HE.out.on BQ.out) HBW.out)
      have hst := crL_step (m := n - (j + 1)) (Y := Y.map Cm.nz) (X := L) (by rw [HX2.out, show n - j = n - (j + 1) + 1 by omega])
      obtain ⟨V, hV⟩ : ∃ V, V = crR xs k' e' := ⟨_, rfl⟩
      rw [← hV] at VC hst
      obtain ⟨v1, vk, ve⟩ := V
      dsimp only at hst
      have HST := Lib.hid hst
      clear hV hst
      go_wp2_with fail
      refine VC.out.mono ?_
      rintro q w6 ⟨z, rfl, hz1, hz2, hz3, hz4, hz5⟩
      dsimp only at hz1 hz4
      have hsz6 := hz5.size
      have hlt := HLT.out.1
      have hfq := HFq.out.size
      have ow6 : w6.ownsRow w2.heap.size 42 9 (.slice ao Y.length c) Y.length (ccs Y) := own_keepK OWN.out (fun g hg hgl => hz5.block g hgl (by have := (OWN.out.lt g hg).1; omega) (fun e => by cases e))
      have OW6 := Lib.hid ow6
      have HZ := Lib.hid (And.intro hz1 (And.intro hz2 (And.intro hz3 (And.intro hz4 hz5))))
      clear hz1 hz2 hz3 hz4 hz5 ow6
      obtain ⟨z1, z2, z3, z4, z5, zv⟩ := z
      obtain ⟨zk, zn, zs, za, zc, zl⟩ := zv
      have hYl : Y.length ≤ 256 := by have := HYJ.out; omega
      unfold Cm.cells VT.cells
      go_wp2_with (at_builtin; refine wpList_append_own_src _ rfl (.tmp 13) (.tmp 16) 39 39 rfl w2.heap.size 42 i0 (.agg #[.int .i64 0, .int .i64 0, .int .i64 0, .int .i64 0, .string ⟨#[]⟩, .int .i64 0, .int .i64 0, .string ⟨#[]⟩, .slice none 0 0]) 9 104 Tryz.underlying39 HI.out.1 HI.out.2.1 HI.out.2.2.1 HI.out.2.2.2 rfl _ Y.length (ccs Y) rfl (OW6.out.alloc _) _ 1 (Cm.mk z1 z2 z3 z4 z5 (VT.mk zk zn zs za zc zl)).cells rfl (src_oneK Tryz.underlying39 w6 (Cm.mk z1 z2 z3 z4 z5 (VT.mk zk zn zs za zc zl)).cells (Cm.cells_len _) (Cm.cells_one' _)) ?b1 ?b2 ?b3 ?next)
      case b1 => unfold maxLen; omega
      case b2 => omega
      case b3 => simp; omega
      case next =>
        intro v2 w7 g7
        have gr := g7.2.2
        obtain ⟨a2, c2, rfl, own7, hb7, blk7⟩ := grew_oneK OW6.out (by omega) (Nat.le_refl _) g7
        have hz := HZ.out
        have RL := Lib.hid (show dcRel w2 b r xs n L (.slice a2 (Y.length + 1) c2) (.int .u64 ((j + 1 : Nat) : Int)) w7 from by
          have hl : (Y ++ [Cm.mk z1 z2 z3 z4 z5 (VT.mk zk zn zs za zc zl)]).length = Y.length + 1 := by simp
          have nb : ∀ q, q < w2.heap.size → w7.heap[q]? = w6.heap[q]? := fun q hq => blk7 q (by omega) (fun e => by have := (OW6.out.lt q e.symm).1; omega)
          have hvals := elems_app (Y := Y.map Cm.val) (n := Y.length) (c := c) (ao := ao) (wq := wq) (w4 := w6) (m := w6.heap.size + 1) (by omega) HEL.out hsz6 (fun q h1 h2 => hz.2.2.2.2.block q h1 (by omega) (fun e => by cases e)) ⟨hz.2.1.val, hz.2.2.1⟩ (fun g hg => (OWN.out.lt g hg).2) hb7.size blk7 (by simpa using gr) (by omega)
          refine ⟨j + 1, Y ++ [Cm.mk z1 z2 z3 z4 z5 (VT.mk zk zn zs za zc zl)], a2, c2, vk, ve, rfl, hj, by rw [hl, HYJ.out], by rw [hl], ?_, ?_, ?_, ?_, ?_, ?_⟩
          · rw [List.map_append]
            simp only [List.map_cons, List.map_nil, hz.1]
            exact HST.out
          · rw [hl, ccs_app, ccs_sing]
            exact own7
          · intro y hy
            have hv : y.val.At w7.heap.size w7 := (hvals y.val (by
              rw [show Y.map Cm.val ++ [VT.mk zk zn zs za zc zl] = (Y ++ [Cm.mk z1 z2 z3 z4 z5 (VT.mk zk zn zs za zc zl)]).map Cm.val by simp]
              exact List.mem_map_of_mem hy)).1
            rcases List.mem_append.1 hy with hy | hy
            · have h := HAT.out y hy
              exact ⟨h.kind, h.time, h.a, h.b, h.name, hv⟩
            · obtain rfl := List.mem_singleton.1 hy
              have h := hz.2.1
              exact ⟨h.kind, h.time, h.a, h.b, h.name, hv⟩
          · rw [hl, List.map_append]
            exact hvals
          · exact hz.2.2.2.1.keep (nb b hlt) (fun g hg => nb g (HLT.out.2 g hg))
          · have f6 := HFq.out.trans (Or.inl rfl) hz.2.2.2.2
            exact ⟨hb7.os.trans f6.os, hb7.tape.trans f6.tape, hb7.output.trans f6.output, Nat.le_trans f6.size hb7.size, fun q hq h1 h2 => (nb q hq).trans (f6.block q hq h1 h2)⟩)
        clear own7 hb7 blk7 g7 gr hz
        go_wp2_with fail
        exact ⟨RL.out, by simp [intOf]; omega⟩
    · have q1 : ¬ (j : Int) < (n : Int) := by omega
      obtain rfl : j = n := by omega
      have hl := HX2.out
      rw [Nat.sub_self, crL, List.append_nil] at hl
      have EN := Lib.hid (end_any HRq.out HSZ.out)
      obtain ⟨er, her⟩ : ∃ er, er = rend xs k' e' := ⟨_, rfl⟩
      rw [← her] at EN
      have hx := HX.out
      rw [hl] at hx
      dsimp only at hx
      rw [← her, allE_nz] at hx
      have HX3 := Lib.hid hx
      have CLq := Lib.hid (CL.ofOwn OWN.out (by have := HYJ.out; omega) HAT.out)
      have HYL := Lib.hid (show Y.length = j from HYJ.out)
      clear hx hl her
      go_wp2_with fail
      refine EN.out.mono ?_
      rintro q w8 ⟨rfl, nn, hw8⟩
      have BQ8 := Lib.hid (show Below wq.heap.size wq w8 by rw [hw8]; exact below_drewG (Below.refl _ _) nn)
      have hs8 : w8.heap.size = wq.heap.size := by rw [hw8]; rfl
      have B8 := Lib.hid (BQ.out.trans (BQ8.out.mono BQ.out.size))
      have CL8 := Lib.hid (show CL w8.heap.size w8 ao Y by rw [hs8]; exact CLq.out.below BQ8.out)
      clear hw8 hs8
      by_cases h0 : er = 0
      · subst h0
        have CA := Lib.hid (call_any ao c Y w8.heap.size w8 CL8.out (Nat.le_refl _) ((HE.out.on B8.out).base B8.out.size))
        have hx := HX3.out
        simp only [if_true] at hx
        obtain ⟨ea, hea⟩ : ∃ ea, ea = allE Y := ⟨_, rfl⟩
        rw [← hea] at CA hx
        have HX4 := Lib.hid hx
        clear hx hea
        go_wp2_with fail
        refine CA.out.mono ?_
        rintro q w9 ⟨rfl, hb9⟩
        have B9 := Lib.hid (B8.out.trans (hb9.mono B8.out.size))
        have CL9 := Lib.hid ((CL8.out.below hb9).mono hb9.size)
        clear hb9
        by_cases h1 : ea = 0
        · subst h1
          have RL := Lib.hid (show DccPost w X (.returned (.tuple #[.slice ao Y.length c, .int .i64 0])) w9 from ⟨ao, c, Y, by rw [HX4.out], by rw [HX4.out]; rfl, CL9.out, B9.out⟩)
          go_wp2_with fail
          go_ret2
          exact RL.out
        · have h2 : (ea != 0) = true := by simpa using h1
          have RL := Lib.hid (show DccPost w X (.returned (.tuple #[.slice none 0 0, .int .i64 ea])) w9 from ⟨none, 0, [], by rw [HX4.out]; rfl, by rw [HX4.out, if_neg h1]; rfl, ⟨(fun x hx => by cases hx), (fun h => absurd rfl h), by simp⟩, B9.out⟩)
          go_wp2_with fail
          go_ret2
          exact RL.out
      · have h2 : (er == 0) = false := by simpa using h0
        have h3 : (er != 0) = true := by simpa using h0
        have RL := Lib.hid (show DccPost w X (.returned (.tuple #[.slice none 0 0, .int .i64 er])) w8 from ⟨none, 0, [], by rw [HX3.out, if_neg h0]; rfl, by rw [HX3.out, if_neg h0, if_neg h0]; rfl, ⟨(fun x hx => by cases hx), (fun h => absurd rfl h), by simp⟩, B8.out⟩)
        go_wp2_with fail
        go_ret2
        exact RL.out
end Go.Proofs.YtnfobnnbeefeeaaGreatDoor.Wi
