/- The reference's disk: New. -/
import Derived.Test.YthcliaaoadfegaaZf
namespace Go.Proofs.Ythcliaaoadfegaa.Dk
open Go Go.RowKit
set_option linter.unusedVariables false
set_option linter.unusedSimpArgs false
theorem grew_frm {w w' : World} {base size n g : Nat} {e : TypeId} {v v' : Value} {xs : List Value} (hG : Grew w w' base e size v v' n xs) (ho : ∀ k, v.ownBlock = some k → g ≤ k) : Frm (fun k => g ≤ k) w w' := (Frm.refl _ w).grown hG.2.1 (fun j e => .inl (ho j e))
/-- The new disk, ahead of its sectors. -/
def newR : RV := ⟨none, 0, 0, none, 0, 0, false, -1, 0, 0⟩
def NwRel (n g k2 k3 : Nat) (w : World) (u : Value) (wr : World) : Prop :=
  ∃ (i : Nat) (so : Option Addr) (sc : Nat), u = .int .i64 (i : Int) ∧ i ≤ n ∧ wr.ownsRow g 9 1 (.slice so i sc) i (List.replicate i (.string (str zeros))) ∧ RVB wr k3 { newR with so := so, sn := i, sc := sc } ∧ RVB wr k2 zeroR ∧ Below w.heap.size w wr ∧ g ≤ wr.heap.size
def NsRel (w : World) (a b : Value) (wr : World) : Prop := ∃ k : Nat, a = .string (str (List.replicate k 0)) ∧ b = .int .i64 (k : Int) ∧ k ≤ 128 ∧ wr = w
theorem str_zero_succ (k : Nat) : str (List.replicate k 0) ++ ⟨#[0]⟩ = str (List.replicate (k + 1) 0) := by
  rw [List.replicate_succ', ← r5s_app]
  rfl
theorem gw_step {g a b : Nat} {w : World} {p : Addr} {v : Value} (h1 : g ≤ a) (h2 : a ≤ b) (h3 : b ≤ w.heap.size) : g ≤ (w.setCell p v).heap.size := by
  have h4 : g ≤ w.heap.size := by omega
  simpa [World.setCell] using h4
set_option maxRecDepth 100000 in
set_option maxHeartbeats 3200000 in
theorem r5New_any {T : Nat → Prop} (n : Nat) (hn : n ≤ 8) (w : World) (hT : ∀ k, T k → k < w.heap.size) :
    Calls Try.prog 8 #[.int .i64 (n : Int)] w fun e w' => ∃ v', e = .returned (.agg v'.cells.toArray) ∧ RVOf T w' v' (DS.new n) [] ∧ Below w.heap.size w w' := by
  obtain ⟨k2, hk2⟩ : ∃ k, k = w.heap.size := ⟨_, rfl⟩
  obtain ⟨k3, hk3⟩ : ∃ k, k = w.heap.size + 1 := ⟨_, rfl⟩
  obtain ⟨w3, hw3⟩ : ∃ w3, w3 = (w.alloc (.cells zeroR.cells.toArray 32)).alloc (.cells newR.cells.toArray 32) := ⟨_, rfl⟩
  have e1 : (w.alloc (.cells zeroR.cells.toArray 32)).heap.size = w.heap.size + 1 := Array.size_push _
  have e2 : w3.heap.size = w.heap.size + 1 + 1 := by rw [hw3, ← e1]; exact Array.size_push _
  have h2 : RVB w3 k2 zeroR := by rw [hw3, hk2]; exact (Below.heap_alloc _ _ _ (by rw [e1]; omega)).trans (heap_alloc_new _ _)
  have h3 : RVB w3 k3 newR := by rw [hw3, hk3, ← e1]; exact heap_alloc_new _ _
  have hb : Below w.heap.size w w3 := by rw [hw3]; exact ((Below.refl _ w).alloc (Nat.le_refl _) _).alloc (by rw [e1]; omega) _
  obtain ⟨g, hg⟩ : ∃ g, g = w3.heap.size := ⟨_, rfl⟩
  have HK := Lib.hid (show w.heap.size ≤ k2 ∧ w.heap.size ≤ k3 ∧ k2 < g ∧ k3 < g ∧ k3 ≠ k2 ∧ w.heap.size ≤ g from by omega)
  have N0 := Lib.hid (show NwRel n g k2 k3 w (.int .i64 0) w3 from ⟨0, none, 0, rfl, Nat.zero_le _, World.ownsRow_nil w3 _ _ _, h3, h2, hb, by omega⟩)
  have HW3 := Lib.hid (show w3 = (w.alloc (.cells #[.slice none 0 0, .slice none 0 0, .bool false, .int .i64 0, .int .i64 0, .int .i64 0] 32)).alloc (.cells #[.slice none 0 0, .slice none 0 0, .bool false, .int .i64 (-1), .int .i64 0, .int .i64 0] 32) from hw3)
  have HK2 := Lib.hid hk2
  have HK3 := Lib.hid hk3
  have HT := Lib.hid hT
  have HG := Lib.hid hg
  have NSZ := Lib.hid (Try.r5Size' newR)
  obtain ⟨i0, hi0, hz0, hz1, hz2⟩ := info_parts Try.infoStr
  clear e1 e2 h2 h3 hb hw3 hk2 hk3 hT hg
  go_enter Try.func8, Try.ntmps8
  go_upto_region 2 with fail
  rw [← HW3.out, ← HK3.out, ← HK2.out]
  go_wp2_with fail
  go_loopw [4] (fun u wr => NwRel n g k2 k3 w u wr) (fun u _ => n - (intOf u).toNat)
  case atStart => exact N0.out
  case round =>
    obtain ⟨wq, rfl⟩ : ∃ wq : World, wq = wr := ⟨_, rfl⟩
    obtain ⟨i, so, sc, rfl, hi, hown, r3, r2, hbw, hgw⟩ := hrel
    have HOWN := Lib.hid hown
    have R3 := Lib.hid r3
    have R2 := Lib.hid r2
    have HBW := Lib.hid hbw
    have HGW := Lib.hid hgw
    have c0 : wq.cell? ⟨k3, 0, none⟩ = some (.slice so i sc) := r3.c0
    clear hown r3 r2 hbw hgw N0
    by_cases hil : i < n
    · have hii : (i : Int) < (n : Int) := by omega
      have S0 := Lib.hid (show NsRel wq (.string ⟨#[]⟩) (.int .i64 0) wq from ⟨0, rfl, rfl, Nat.zero_le _, rfl⟩)
      have HC0 := Lib.hid c0
      clear c0
      go_wp2_with fail
      go_loopw [5, 6] (fun a b wr => NsRel wq a b wr) (fun _ b _ => 128 - (intOf b).toNat)
      case atStart => exact S0.out
      case round =>
        obtain ⟨k, rfl, rfl, hk, hwr⟩ := hrel
        obtain rfl := hwr.symm
        clear S0
        by_cases hkl : k < 128
        · have hki : (k : Int) < 128 := by omega
          have hss := str_zero_succ k
          have hs1 : (str (List.replicate k 0)).size = k := by rw [r5s_size, List.length_replicate]
          have RL := Lib.hid (show NsRel wq (.string (str (List.replicate k 0) ++ ⟨#[0]⟩)) (.int .i64 ((k + 1 : Nat) : Int)) wq from ⟨k + 1, by rw [hss], rfl, by omega, rfl⟩)
          clear hss
          generalize str (List.replicate k 0) = B at *
          go_wp2_with fail
          exact ⟨RL.out, by simp [intOf]; omega⟩
        · obtain rfl : k = 128 := by omega
          rw [show ((128 : Nat) : Int) = 128 from rfl]
          have hzz : str (List.replicate 128 0) = str zeros := rfl
          rw [hzz]
          obtain ⟨B, hB⟩ : ∃ B, B = str zeros := ⟨_, rfl⟩
          rw [← hB]
          have HB := Lib.hid hB
          clear hzz hB
          obtain ⟨xs, hxs⟩ : ∃ xs : List Value, xs = List.replicate i (.string (str zeros)) := ⟨_, rfl⟩
          have hown := HOWN.out
          rw [← hxs] at hown
          have OW := Lib.hid hown
          have HXS := Lib.hid hxs
          have L1 := Lib.hid (show i + 1 ≤ maxLen by unfold maxLen; omega)
          have L2 := Lib.hid (show (i + 1) * 16 ≤ 140737488355328 by omega)
          have b3 : g ≤ (wq.alloc (.cells #[.string B] 9)).heap.size := by
            have := HGW.out
            rw [show (wq.alloc (.cells #[.string B] 9)).heap.size = wq.heap.size + 1 from Array.size_push _]
            omega
          have B3 := Lib.hid b3
          have c0 : (wq.alloc (.cells #[.string B] 9)).cell? ⟨k3, 0, none⟩ = some (.slice so i sc) := (R3.out.below ((Below.refl _ wq).alloc (Nat.le_refl _) _) (Nat.le_refl _)).c0
          have c0' := HC0.out
          clear hown hxs b3
          go_wp2_with (at_builtin; refine wpList_append_own_src _ rfl (.tmp 20) (.tmp 22) 29 29 rfl g 9 i0 (.string ⟨#[]⟩) 1 16 Try.underlying29 hi0 hz0 hz1 hz2 rfl _ i xs rfl (OW.out.alloc _) _ 1 [.string B] rfl (src5_one wq B) L1.out L2.out B3.out ?next)
          case next =>
            intro v6 w6 hG6
            obtain ⟨ao, c, rfl⟩ := own_sl hG6.1
            have f6 := grew_frm (g := g) hG6 (fun k hk => (OW.out.lt k hk).1)
            have hba : Below wq.heap.size wq (wq.alloc (.cells #[.string B] 9)) := (Below.refl _ wq).alloc (Nat.le_refl _) _
            have r36 := (R3.out.below hba (Nat.le_refl _)).frame f6 (by have := HK.out; omega)
            have r26 := (R2.out.below hba (Nat.le_refl _)).frame f6 (by have := HK.out; omega)
            have d0 := r36.c0
            have e0 := r36.f 0
            have b6 : Below w.heap.size w w6 := (HBW.out.trans (hba.mono HBW.out.size)).trans (f6.below (fun k _ hk => by have := HK.out; omega) (HBW.out.trans (hba.mono HBW.out.size)).size)
            have own7 : (w6.setCell ⟨k3, 0, none⟩ (.slice ao (i + 1) c)).ownsRow g 9 1 (.slice ao (i + 1) c) (i + 1) (List.replicate (i + 1) (.string (str zeros))) := by
              have h := hG6.1
              rw [HXS.out, HB.out, ← List.replicate_succ'] at h
              exact ownsRow_setCell_below h (a := ⟨k3, 0, none⟩) (by have := HK.out; show k3 < g; omega) _
            have RL := Lib.hid (show NwRel n g k2 k3 w (.int .i64 ((i + 1 : Nat) : Int)) (w6.setCell ⟨k3, 0, none⟩ (.slice ao (i + 1) c)) from ⟨i + 1, ao, c, rfl, by omega, own7, r36.set0 ao (i + 1) c, r26.other (fun e => HK.out.2.2.2.2.1 e.symm) _, b6.setCell (p := ⟨k3, 0, none⟩) HK.out.2.1 _, gw_step HGW.out hba.size f6.size⟩)
            clear hG6 f6 hba r36 r26 b6 own7 c0 c0'
            go_wp2_with fail
            exact ⟨RL.out, by simp [intOf]; omega⟩
    · obtain rfl : i = n := by omega
      have hii : ¬ (i : Int) < (i : Int) := by omega
      obtain ⟨z, hz⟩ : ∃ z : RV, z = { newR with so := so, sn := i, sc := sc } := ⟨_, rfl⟩
      have r3 := R3.out
      rw [← hz] at r3
      have hown := HOWN.out
      have hst : StrA (fun k => k < g) wq so (List.replicate i zeros) := by
        have e : (List.replicate i (Value.string (str zeros))) = (List.replicate i zeros).map fun b => .string (str b) := by rw [List.map_replicate]
        rw [e] at hown
        obtain ⟨so', c', e', hst⟩ := strA_of (w0 := w) (T := fun k => k < g) (s := List.replicate i zeros) (by rw [List.length_replicate]; exact hown) (fun k hk => hk)
        injection e' with e1 e2 e3
        subst e1
        exact hst
      have ZR := Lib.hid (r5_ret (u := z) R2.out HBW.out HK.out.1)
      have HWZ : StrA T (wq.setRow k2 z.cells.toArray) so (List.replicate i zeros) := by
        have f : Frm (fun k => k = k2) wq (wq.setRow k2 z.cells.toArray) := (Frm.refl (fun k => k = k2) wq).setRow (.inl rfl) _
        exact (hst.frame f (fun k _ hk => by have := HK.out; subst hk; omega)).more (fun k _ hk => by have := HT.out k hk; have := HK.out; omega)
      have ZF := Lib.hid (show RVOf T (wq.setRow k2 z.cells.toArray) z (DS.new i) [] from by
        rw [hz] at HWZ ⊢
        exact ⟨by simp [DS.new], rfl, rfl, by show (-1 : Int) = max (-1) (-1); decide, rfl, rfl, HWZ, ⟨fun _ => rfl, fun a e => by cases e⟩⟩)
      have Z1 := Lib.hid r3.cs
      have ZS := Lib.hid (Try.r5Size z)
      have ZS' := Lib.hid (Try.r5Size' z)
      have Z0 := Lib.hid (R2.out.shape z)
      clear hz r3 hown hst HWZ c0
      go_wp2_with (first
        | (with_reducible show wpList _ _ _ _ _ _; refine wpList_load_all rfl 32 (.tmp 3) rfl ⟨k3, 0, none⟩ rfl z.cells _ Z1.out Try.underlying32 rfl ZS.out ?_)
        | (with_reducible show wpList _ _ _ _ _ _; refine wpList_store_whole rfl 32 (.tmp 2) (.tmp 25) rfl k2 32 _ z.cells.toArray rfl rfl R2.out.row ZS'.out Z0.out z.cells_one ?_))
      refine bodyPost_ret (results_cell_row rfl _ _ k2 32 z.cells.toArray (0, 0) _ rfl ZR.out.1 Try.underlying32 rfl ZS'.out) rfl ⟨z, rfl, ZF.out, ZR.out.2⟩
end Go.Proofs.Ythcliaaoadfegaa.Dk
