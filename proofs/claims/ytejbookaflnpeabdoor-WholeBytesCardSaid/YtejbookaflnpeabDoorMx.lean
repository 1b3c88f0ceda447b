/- A whole block is taken in. -/
import Derived.Test.YtejbookaflnpeabDoorSt
namespace Go.Proofs.YtejbookaflnpeabDoor
open Go Go.RowKit
set_option linter.unusedVariables false

/-- Of what was there only block b may have changed. -/
structure Hs (w w' : World) (b : Nat) : Prop where
  os : w'.os = w.os
  tape : w'.tape = w.tape
  output : w'.output = w.output
  size : w.heap.size ≤ w'.heap.size
  block : ∀ g, g < w.heap.size → g ≠ b → w'.heap[g]? = w.heap[g]?
theorem Hs.refl (w : World) (b : Nat) : Hs w w b := ⟨rfl, rfl, rfl, Nat.le_refl _, fun _ _ _ => rfl⟩
theorem Hs.trans {w w' w'' : World} {b : Nat} (h : Hs w w' b) (h' : Hs w' w'' b) : Hs w w'' b :=
  ⟨h'.os.trans h.os, h'.tape.trans h.tape, h'.output.trans h.output, Nat.le_trans h.size h'.size, fun g hg hb => (h'.block g (Nat.lt_of_lt_of_le hg h.size) hb).trans (h.block g hg hb)⟩
theorem Hs.of_below {w w' : World} {b : Nat} (h : Below w.heap.size w w') : Hs w w' b := ⟨h.os, h.tape, h.output, h.size, fun g hg _ => h.block g hg⟩
theorem Hs.then_below {w w' w'' : World} {b : Nat} (h : Hs w w' b) (h' : Below w'.heap.size w' w'') : Hs w w'' b := h.trans (Hs.of_below h')
theorem Hs.setCell {w w' : World} {b : Nat} (h : Hs w w' b) (o : Nat) (v : Value) : Hs w (w'.setCell ⟨b, o, none⟩ v) b :=
  ⟨h.os, h.tape, h.output, by simpa using h.size, fun g hg hb => (heap_setCell_other w' _ g v hb).trans (h.block g hg hb)⟩
theorem Hs.drewN {w w' : World} {b : Nat} (h : Hs w w' b) (n : Nat) : Hs w (w'.drewN n) b := ⟨h.os, h.tape, h.output, h.size, h.block⟩
theorem HashAt.setG {w : World} {b : Nat} {G : List Nat} {B : List UInt8} {n : Nat} (h : HashAt w b G B n) (i : Nat) (hi : i < 8) (x : Nat) : HashAt (w.setCell ⟨b, i, none⟩ (.int .u32 (x : Int))) b (G.set i x) B n := by
  refine ⟨by rw [List.length_set]; exact h.1, h.2.1, ?_⟩
  rw [heap_setCell_same w b i _ _ _ h.2.2]
  have : (hcells G B n).set i (.int .u32 (x : Int)) = hcells (G.set i x) B n := by
    unfold hcells
    rw [List.append_assoc, List.set_append_left _ _ (by rw [u32s_length, h.1]; exact hi), u32s_set, List.append_assoc]
  rw [← this]; simp
theorem HashAt.drewN {w : World} {b : Nat} {G : List Nat} {B : List UInt8} {n : Nat} (h : HashAt w b G B n) (m : Nat) : HashAt (w.drewN m) b G B n := h
theorem HashAt.frozen {w : World} {b : Nat} {G : List Nat} {B : List UInt8} {n : Nat} (h : HashAt w b G B n) (k : Nat) : w.frozen? ⟨b, k, none⟩ = false := frozen_of_row w b k _ _ h.2.2

def S8.of (l : List Nat) : S8 := ⟨l.getD 0 0, l.getD 1 0, l.getD 2 0, l.getD 3 0, l.getD 4 0, l.getD 5 0, l.getD 6 0, l.getD 7 0⟩
def S8.list (s : S8) : List Nat := [s.a, s.b, s.c, s.d, s.e, s.f, s.g, s.h]
theorem S8.vals_list (s : S8) : s.vals = (u32s s.list).toArray := rfl
theorem S8.list_of (l : List Nat) (h : l.length = 8) : (S8.of l).list = l := by
  match l, h with
  | [_, _, _, _, _, _, _, _], _ => rfl
/-- The eight numbers behind a block. -/
def mixG (G S K : List Nat) (B : List UInt8) : List Nat := zip8 G (rnds (exs B 48) K (S8.of (zip8 G S)) 64).list

def MxRel (w : World) (b : Nat) (G N : List Nat) (B : List UInt8) (n g : Nat) (u : Value) (wr : World) : Prop :=
  ∃ i : Nat, u = .int .i64 (i : Int) ∧ i ≤ 8 ∧ HashAt wr b (zipTo G N i) B n ∧ wr.heap[g]? = some (.cells (u32s N).toArray 50 (0, 0)) ∧ Hs w wr b
set_option maxRecDepth 100000 in
set_option maxHeartbeats 2000000 in
theorem mix_any {w : World} {b : Nat} {G : List Nat} {B : List UInt8} {n : Nat} (h : HashAt w b G B n) (S K : List Nat) (hS : S.length = 8) (hK : K.length = 64)
    (hsc : ∀ i, i < 8 → w.cell? ⟨1, i, none⟩ = some (.int .u32 ((S.getD i 0 : Nat) : Int))) (hkc : ∀ i, i < 64 → w.cell? ⟨3, i, none⟩ = some (.int .u32 ((K.getD i 0 : Nat) : Int))) (hbs : b ≠ 1) (hbk : b ≠ 3) :
    Calls Tryd.prog 45 #[.pointer (some ⟨b, 0, none⟩)] w fun e w' => e = .returned (.tuple #[]) ∧ HashAt w' b (mixG G S K B) B n ∧ Hs w w' b := by
  have hb := h.lt
  have hgs : 1 < w.heap.size := World.block_lt_of_cell? w _ (hsc 0 (by decide))
  have hgk : 3 < w.heap.size := World.block_lt_of_cell? w _ (hkc 0 (by decide))
  have hs8 : (zip8 G S).length = 8 := zip8_length G S
  obtain ⟨s, hs⟩ : ∃ s, s = S8.of (zip8 G S) := ⟨_, rfl⟩
  have hsv : Value.agg (u32s (zip8 G S)).toArray = .agg s.vals := by rw [hs, S8.vals_list, S8.list_of _ hs8]
  have hok : s.ok := by
    have : ∀ k, (zip8 G S).getD k 0 < 4294967296 := getD_lt (fun x hx => by
      simp only [zip8, List.mem_map] at hx
      obtain ⟨_, _, rfl⟩ := hx
      exact Nat.mod_lt _ (by decide))
    rw [hs]
    exact ⟨this 0, this 1, this 2, this 3, this 4, this 5, this 6, this 7⟩
  have hX : (exs B 48).length = 64 := by rw [exs_length]
  have c1 : Calls Tryd.prog 35 #[.pointer (some ⟨b, 0, none⟩)] w fun e w' => e = .returned (.agg s.vals) ∧ Below w.heap.size w w' := (state_any h S hS hsc).mono fun _ _ h' => ⟨h'.1.trans (by rw [hsv]), h'.2⟩
  have c2 : ∀ w', Below w.heap.size w w' → Calls Tryd.prog 57 #[.pointer (some ⟨b, 0, none⟩)] w' fun e w'' => e = .returned (.agg (u32s (exs B 48)).toArray) ∧ Below w.heap.size w w'' := fun w' hB => (words_any (h.below hB hb)).mono fun _ _ h' => ⟨h'.1, hB.trans (h'.2.mono hB.size)⟩
  have c3 : ∀ w', Below w.heap.size w w' → Calls Tryd.prog 56 #[.agg s.vals, .agg (u32s (exs B 48)).toArray] w' fun e w'' => e = .returned (.agg (u32s (rnds (exs B 48) K s 64).list).toArray) ∧ Below w.heap.size w w'' := fun w' hB =>
    (rounds_any w' s hok (exs B 48) K hX hK (fun i hi => (hB.cell (p := ⟨3, i, none⟩) hgk).trans (hkc i hi))).mono fun _ _ h' => ⟨h'.1, hB.trans (h'.2.mono hB.size)⟩
  have hm : mixG G S K B = zip8 G (rnds (exs B 48) K s 64).list := by rw [hs]; rfl
  rw [hm]
  have hN : (rnds (exs B 48) K s 64).list.length = 8 := rfl
  generalize (rnds (exs B 48) K s 64).list = N at *
  generalize exs B 48 = X at *
  generalize s.vals = sv at *
  have C1 := Lib.hid c1
  have C2 := Lib.hid c2
  have C3 := Lib.hid c3
  clear c1 c2 c3 hm hX hok hsv hs hs8 hsc hkc hgs hgk hbs hbk hS hK
  clear s
  have hG := h.1
  have sz := Lib.hid (show (Tryd.prog.info? 50).map (·.size) = some (u32s N).toArray.size by rw [List.size_toArray, u32s_length, hN]; kernel_rfl)
  have so := Lib.hid (show Z8.toArray.size = (u32s N).toArray.size by simp [Z8, u32s_length, hN])
  have s1 := Lib.hid (show (u32s N).toArray.all (·.oneCell') = true from all_oneCell_toArray (u32s_one _))
  have NB := Lib.hid (fun w3 : World => (show (w3.alloc (.cells #[.int .u32 0, .int .u32 0, .int .u32 0, .int .u32 0, .int .u32 0, .int .u32 0, .int .u32 0, .int .u32 0] 50)).heap[w3.heap.size]? = some (.cells Z8.toArray 50 (0, 0)) from heap_alloc_new w3 _))
  go_enter Tryd.func45, Tryd.ntmps45
  go_wp2_with (first
    | (go_at_call 35; refine C1.out.mono ?_; rintro e w1 ⟨rfl, hB1⟩)
    | (go_at_call 57; refine (C2.out _ hB1).mono ?_; rintro e w2 ⟨rfl, hB2⟩)
    | (go_at_call 56; refine (C3.out _ hB2).mono ?_; rintro e w3 ⟨rfl, hB3⟩)
    | (refine wpList_store_all rfl 50 (.tmp 2) (.tmp 8) rfl w3.heap.size 50 Z8.toArray (u32s N).toArray rfl rfl (NB.out w3) sz.out so.out s1.out ?_))
  have st := setRow_heap _ w3.heap.size _ (u32s N).toArray 50 (0, 0) (NB.out w3)
  have sB : Below w.heap.size w ((w3.alloc (.cells #[.int .u32 0, .int .u32 0, .int .u32 0, .int .u32 0, .int .u32 0, .int .u32 0, .int .u32 0, .int .u32 0] 50)).setRow w3.heap.size (u32s N).toArray) := below_setRow (hB3.alloc hB3.size _) hB3.size _
  have hbg : b < w3.heap.size := Nat.lt_of_lt_of_le hb hB3.size
  generalize (w3.alloc (.cells #[.int .u32 0, .int .u32 0, .int .u32 0, .int .u32 0, .int .u32 0, .int .u32 0, .int .u32 0, .int .u32 0] 50)).setRow w3.heap.size (u32s N).toArray = w4 at *
  generalize w3.heap.size = g at *
  have ST := Lib.hid st
  clear st C1 C2 C3 NB sz so s1 hB1 hB2 hB3
  go_loopw [9] (fun u wr => MxRel w b G N B n g u wr) (fun u _ => 8 - (intOf u).toNat)
  case atStart => exact ⟨0, rfl, Nat.zero_le _, by have := h.below sB hb; simpa [zipTo] using this, ST.out, Hs.of_below sB⟩
  case round =>
    clear ST sB
    obtain ⟨i, rfl, hi, hH, r1, hR⟩ := hrel
    by_cases h8 : i < 8
    · have c0 : wr.cell? ⟨b, i, none⟩ = some (.int .u32 ((G.getD i 0 : Nat) : Int)) := by rw [hH.gained i h8, zipTo_get G N hG h8]
      have k0 : wr.cell? ⟨g, i, none⟩ = some (.int .u32 ((N.getD i 0 : Nat) : Int)) := by
        rw [cell_of_row wr _ i _ _ _ r1]
        simpa using u32s_get N i (by omega)
      have gf := hH.frozen i
      have hn := zipTo_set G N hG h8
      have HN := Lib.hid hn
      have R1 := Lib.hid r1
      have HH := Lib.hid hH
      clear hn r1 hH
      generalize G.getD i 0 = x at *
      generalize N.getD i 0 = y at *
      have p0 : (0 : Int) ≤ (i : Int) := by omega
      have j0 : (i : Int) < 8 := by omega
      go_wp2_with fail
      (refine wp_region_quiet_tail 12 (by kernel_rfl) (by kernel_rfl) ?_; simp only [List.take_succ_cons, List.take_zero, List.drop_succ_cons, List.drop_zero]; (repeat (go_big_quiet_step (fail))); refine wpQuiet_nil ?_; intro _ hw'; obtain ⟨nq, hw''⟩ := hw'; subst hw'')
      go_wp2
      refine ⟨⟨i + 1, by go_num, by omega, ?_, ?_, ?_⟩, by simp [intOf]; omega⟩
      · rw [← HN.out]
        exact (HH.out.drewN nq).setG i h8 _
      · rw [heap_setCell_other _ _ _ _ (by simp; omega)]; exact R1.out
      · exact (hR.drewN nq).setCell _ _
    · obtain rfl : i = 8 := by omega
      have e8 : zipTo G N 8 = zip8 G N := by simp [zipTo, hG, zip8_length, List.take_of_length_le]
      rw [e8] at hH
      clear e8
      go_wp2_with fail
      go_end0
      exact ⟨rfl, hH, hR⟩
end Go.Proofs.YtejbookaflnpeabDoor
