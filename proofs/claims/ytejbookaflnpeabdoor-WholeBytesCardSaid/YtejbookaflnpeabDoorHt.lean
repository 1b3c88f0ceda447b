/- The sum of all bytes so far: Hash.Sum. -/
import Derived.Test.YtejbookaflnpeabDoorPs
namespace Go.Proofs.YtejbookaflnpeabDoor
open Go Go.RowKit
set_option linter.unusedVariables false

def Z32 : List Value := bvs (List.replicate 32 0)
theorem Z32_eq : Z32.toArray = #[.int .u8 0, .int .u8 0, .int .u8 0, .int .u8 0, .int .u8 0, .int .u8 0, .int .u8 0, .int .u8 0, .int .u8 0, .int .u8 0, .int .u8 0, .int .u8 0, .int .u8 0, .int .u8 0, .int .u8 0, .int .u8 0, .int .u8 0, .int .u8 0, .int .u8 0, .int .u8 0, .int .u8 0, .int .u8 0, .int .u8 0, .int .u8 0, .int .u8 0, .int .u8 0, .int .u8 0, .int .u8 0, .int .u8 0, .int .u8 0, .int .u8 0, .int .u8 0] := by kernel_rfl
/-- Up to the first i numbers' bytes. -/
def obTo (l : List Nat) (i : Nat) : List UInt8 := ob (l.take i) ++ List.replicate (32 - 4 * i) 0
def HtRel (w : World) (g gs : Nat) (l : List Nat) (u : Value) (wr : World) : Prop :=
  ∃ i : Nat, u = .int .i64 (i : Int) ∧ i ≤ 8 ∧ wr.heap[g]? = some (.cells (bvs (obTo l i)).toArray 43 (0, 0)) ∧ wr.heap[gs]? = some (.cells (u32s l).toArray 50 (0, 0)) ∧ wr.heap[w.heap.size]? = some (.cells Z32.toArray 43 (0, 0)) ∧ Below w.heap.size w wr
theorem Tables.below {w w' : World} {S K : List Nat} {B : Nat} (h : Tables w S K) (hB : Below B w w') (hs : w.heap.size ≤ B) : Tables w' S K :=
  h.hs (b := w.heap.size) ⟨hB.os, hB.tape, hB.output, hB.size, fun g hg _ => hB.block g (by omega)⟩ (by have := h.lt; omega) (by have := h.lt; omega)

theorem Tryd.len32 : Tryd.prog.arrayLen 43 = 32 := by kernel_rfl
/-- A sum, cut from a place on. -/
theorem slice32 (g l : Nat) (x : Int) (hx : x = (l : Int)) (hl : l < 32) (k : IntKind) (w : World) :
    (Instr.sliceAt 43 (.pointer (some ⟨g, 0, none⟩)) (some (.int k x)) none none).run Tryd.prog w = .ok (.slice (some ⟨g, l, none⟩) (32 - l) (32 - l)) w := by
  subst hx
  have h := run_sliceAt_array_l (P := Tryd.prog) w 43 ⟨g, 0, none⟩ (by kernel_rfl) k (l : Int) (by omega) (by rw [Tryd.len32]; omega)
  obtain ⟨i0, hi, hz0, hz1, hz2⟩ := info_parts Tryd.info5
  have he : Tryd.prog.elem 43 = 5 := by kernel_rfl
  have hsz : (sizeOf 5).run Tryd.prog w = .ok 1 w := by simp [sizeOf, typeInfo, hi, hz1]
  rw [h, Tryd.len32, he, hsz]
  simp only [Result.andThen_ok, slicedAt, Int.toNat_natCast, Nat.mul_one]
  rw [if_neg (by omega), Addr.add_mid, Nat.zero_add]
theorem obTo_succ (l : List Nat) (hl : l.length = 8) (i : Nat) (hi : i < 8) : (obTo l i).take (4 * i) ++ (ob1 (l.getD i 0) ++ (obTo l i).drop (4 * i + 4)) = obTo l (i + 1) := by
  have hg : l.getD i 0 = l[i] := by simp [List.getD, hl, hi]
  have h1 : (ob (l.take i)).length = 4 * i := by rw [ob_length, List.length_take]; omega
  have h2 : ob (l.take (i + 1)) = ob (l.take i) ++ ob1 l[i] := by
    rw [List.take_succ_eq_append_getElem (by omega)]
    unfold ob
    rw [List.flatMap_append]
    simp
  unfold obTo
  rw [h2, hg, List.take_append_of_le_length (by omega), List.take_of_length_le (by omega), List.drop_append, List.drop_of_length_le (by omega), h1, List.nil_append, List.append_assoc]
  congr 2
  rw [List.drop_replicate]
  congr 1
  omega
theorem four_bytes (x : Nat) (hx : x < 4294967296) : (#[.int .u8 ((x : Int) / 16777216), .int .u8 ((x : Int) / 65536 % 256), .int .u8 ((x : Int) / 256 % 256), .int .u8 ((x : Int) % 256)] : Array Value) = (bvs (ob1 x)).toArray := by
  simp [bvs, bv, ob1]
  omega
set_option maxRecDepth 100000 in
set_option maxHeartbeats 2000000 in
theorem sum_any {w : World} {b : Nat} {h0 : HS} (h : HashAt w b h0.G h0.B h0.n) {S K : List Nat} (ht : Tables w S K) (hn : h0.n < 1152921504606846976) :
    Calls Tryd.prog 17 #[.pointer (some ⟨b, 0, none⟩)] w fun e w' => e = .returned (.agg (bvs (shaOf S K h0)).toArray) ∧ Below w.heap.size w w' := by
  have hb := h.lt
  have HH := Lib.hid h
  have HT := Lib.hid ht
  have sz := Lib.hid (show (Tryd.prog.info? 54).map (·.size) = some (hcells h0.G h0.B h0.n).toArray.size by rw [List.size_toArray, h.all]; kernel_rfl)
  have s1 := Lib.hid (show (hcells h0.G h0.B h0.n).toArray.all (·.oneCell') = true from all_oneCell_toArray (hcells_one _ _ _))
  have so := Lib.hid (show Z73.size = (hcells h0.G h0.B h0.n).toArray.size by simp only [List.size_toArray]; rw [h.all]; rfl)
  have nh := Lib.hid (fun o => (show ((w.alloc o).alloc (.cells Z73 54)).heap[w.heap.size + 1]? = some (.cells Z73 54 (0, 0)) by
    have := heap_alloc_new (w.alloc o) (.cells Z73 54)
    rwa [World.size_alloc] at this))
  clear h ht
  have zc := zero_hash
  have ld := Lib.hid (fun o => (Below.heap_alloc w o b hb).trans HH.out.2.2)
  go_enter Tryd.func17, Tryd.ntmps17
  go_wp2_with (first
    | (refine wpList_load_row rfl 54 (.tmp 9) rfl b rfl 54 (hcells h0.G h0.B h0.n).toArray (0, 0) _ (ld.out _) Tryd.underlying54 rfl sz.out ?_)
    | (refine wpList_store_all rfl 54 (.tmp 3) (.tmp 10) rfl (w.heap.size + 1) 54 _ (hcells h0.G h0.B h0.n).toArray rfl rfl (nh.out _) sz.out so.out s1.out ?_))
  obtain ⟨w2, hw2⟩ : ∃ w2, w2 = ((w.alloc (.cells #[.int .u8 0, .int .u8 0, .int .u8 0, .int .u8 0, .int .u8 0, .int .u8 0, .int .u8 0, .int .u8 0, .int .u8 0, .int .u8 0, .int .u8 0, .int .u8 0, .int .u8 0, .int .u8 0, .int .u8 0, .int .u8 0, .int .u8 0, .int .u8 0, .int .u8 0, .int .u8 0, .int .u8 0, .int .u8 0, .int .u8 0, .int .u8 0, .int .u8 0, .int .u8 0, .int .u8 0, .int .u8 0, .int .u8 0, .int .u8 0, .int .u8 0, .int .u8 0] 43)).alloc (.cells Z73 54)).setRow (w.heap.size + 1) (hcells h0.G h0.B h0.n).toArray := ⟨_, rfl⟩
  rw [← hw2]
  have B2 : Below w.heap.size w w2 := by
    rw [hw2]
    exact below_setRow (((Below.refl _ _).alloc (Nat.le_refl _) _).alloc (by simp) _) (by omega) _
  have e2 : w2.heap[w.heap.size + 1]? = some (.cells (hcells h0.G h0.B h0.n).toArray 54 (0, 0)) := by
    rw [hw2]
    exact setRow_heap _ _ _ _ _ _ (nh.out _)
  have z2 : w2.heap[w.heap.size]? = some (.cells Z32.toArray 43 (0, 0)) := by
    rw [hw2, setRow_other _ _ _ _ (by omega), Below.heap_alloc _ _ _ (by simp), Z32_eq]
    exact heap_alloc_new w _
  have n2 : w2.heap.size = w.heap.size + 2 := by rw [hw2]; simp
  have hH2 : HashAt w2 b h0.G h0.B h0.n := HH.out.below B2 hb
  have hE2 : HashAt w2 (w.heap.size + 1) h0.G h0.B h0.n := ⟨HH.out.1, HH.out.2.1, e2⟩
  have T2 := HT.out.below B2 (Nat.le_refl _)
  have F := filling_any hH2 hn
  have TL := HT.out.lt
  have FF := Lib.hid F
  have HT2 := Lib.hid T2
  have HE2 := Lib.hid hE2
  have HZ2 := Lib.hid z2
  have N2 := Lib.hid n2
  clear F T2 hH2 e2 hw2 ld nh so s1 sz zc hE2 z2 n2
  refine FF.out.mono ?_
  rintro e w3 ⟨t, ht, rfl, r3, B3⟩
  have n2 := N2.out
  have hR3 : Src w3 (w.heap.size + 1) (.slice (some ⟨w2.heap.size, 0, none⟩) (t + 8) (t + 8)) (FL h0.n t 8) := Src.ofRow (FL_length _ _ _) r3 (by omega)
  have A := addPart_at (HE2.out.below B3 (by omega)) (HT2.out.below B3 (Nat.le_refl _)) (by omega) (by omega) hR3 (by rw [FL_length]; omega)
  have HA := Lib.hid A
  have Ht := Lib.hid ht
  have T3 := Lib.hid (HT2.out.below B3 (Nat.le_refl _))
  have B3' := B2.trans (B3.mono (by omega))
  have z3 : w3.heap[w.heap.size]? = some (.cells Z32.toArray 43 (0, 0)) := (B3.block _ (by omega)).trans HZ2.out
  have n3 := B3.size
  have Z3 := Lib.hid z3
  clear FF A ht hR3 r3 HE2 HZ2 HT2 z3 n2
  go_wp2_with fail
  refine HA.out.mono ?_
  rintro e w4 ⟨rfl, hH4, R4⟩
  have n2 := N2.out
  have T4 : Tables w4 S K := T3.out.hs R4 (by omega) (by omega)
  have B4 : Below w.heap.size w w4 := B3'.trans ⟨R4.os, R4.tape, R4.output, R4.size, fun g hg => R4.block g (by omega) (by omega)⟩
  have z4 : w4.heap[w.heap.size]? = some (.cells Z32.toArray 43 (0, 0)) := (R4.block _ (by omega) (by omega)).trans Z3.out
  have n4 := R4.size
  obtain ⟨w5, hw5⟩ : ∃ w5, w5 = w4.alloc (.cells #[.int .u8 0, .int .u8 0, .int .u8 0, .int .u8 0, .int .u8 0, .int .u8 0, .int .u8 0, .int .u8 0, .int .u8 0, .int .u8 0, .int .u8 0, .int .u8 0, .int .u8 0, .int .u8 0, .int .u8 0, .int .u8 0, .int .u8 0, .int .u8 0, .int .u8 0, .int .u8 0, .int .u8 0, .int .u8 0, .int .u8 0, .int .u8 0, .int .u8 0, .int .u8 0, .int .u8 0, .int .u8 0, .int .u8 0, .int .u8 0, .int .u8 0, .int .u8 0] 43) := ⟨_, rfl⟩
  have B45 : Below w4.heap.size w4 w5 := by rw [hw5]; exact (Below.refl _ _).alloc (Nat.le_refl _) _
  have s5 : w5.heap[w4.heap.size]? = some (.cells Z32.toArray 43 (0, 0)) := by rw [hw5, Z32_eq]; exact heap_alloc_new w4 _
  have n5 : w5.heap.size = w4.heap.size + 1 := by rw [hw5]; simp
  have ST := state_any (hH4.below B45 (by omega)) S T4.1 (T4.below B45 (Nat.le_refl _)).2.2.1
  have HST := Lib.hid ST
  have z5 : w5.heap[w.heap.size]? = some (.cells Z32.toArray 43 (0, 0)) := (B45.block _ (by omega)).trans z4
  have B5 := B4.trans (B45.mono (by omega))
  have Z5 := Lib.hid z5
  have S5 := Lib.hid s5
  have HW5 := Lib.hid hw5
  have N5 := Lib.hid n5
  clear ST HA Z3 T3 z4 s5 z5 hH4 T4 R4 B45 hw5 n2 n5
  go_wp2_with fail
  rw [← HW5.out]
  refine HST.out.mono ?_
  rintro e w6 ⟨rfl, B6⟩
  have n5 := N5.out
  have n2 := N2.out
  have hl8 := zip8_length (feed S K h0 (FL h0.n t 8)).G S
  obtain ⟨l, hl⟩ : ∃ l, l = zip8 (feed S K h0 (FL h0.n t 8)).G S := ⟨_, rfl⟩
  rw [← hl] at hl8 ⊢
  have B6' := B5.trans (B6.mono (by omega))
  have n6 := B6.size
  have z6 := Lib.hid ((B6.block _ (by omega)).trans Z5.out)
  have s6 := Lib.hid ((B6.block _ (by omega)).trans S5.out)
  have hll : ∀ x ∈ l, x < 4294967296 := by
    intro x hx
    rw [hl] at hx
    simp only [zip8, List.mem_map] at hx
    obtain ⟨_, _, rfl⟩ := hx
    exact Nat.mod_lt _ (by decide)
  have HL := Lib.hid hl
  have g4 : w.heap.size < w4.heap.size := by omega
  have g5 : w4.heap.size < w6.heap.size := by omega
  clear hl n5 n2 HST B6 n6 Z5 S5 HW5 N5 N2
  have sz := Lib.hid (show (Tryd.prog.info? 50).map (·.size) = some (u32s l).toArray.size by rw [List.size_toArray, u32s_length, hl8]; kernel_rfl)
  have so := Lib.hid (show Z8.toArray.size = (u32s l).toArray.size by simp [Z8, u32s_length, hl8])
  have s1 := Lib.hid (show (u32s l).toArray.all (·.oneCell') = true from all_oneCell_toArray (u32s_one _))
  have NB := Lib.hid (fun w3 : World => (show (w3.alloc (.cells #[.int .u32 0, .int .u32 0, .int .u32 0, .int .u32 0, .int .u32 0, .int .u32 0, .int .u32 0, .int .u32 0] 50)).heap[w3.heap.size]? = some (.cells Z8.toArray 50 (0, 0)) from heap_alloc_new w3 _))
  go_wp2_with (refine wpList_store_all rfl 50 (.tmp 5) (.tmp 14) rfl w6.heap.size 50 Z8.toArray (u32s l).toArray rfl rfl (NB.out w6) sz.out so.out s1.out ?_)
  have st := setRow_heap _ w6.heap.size _ (u32s l).toArray 50 (0, 0) (NB.out w6)
  have sB : Below w.heap.size w ((w6.alloc (.cells #[.int .u32 0, .int .u32 0, .int .u32 0, .int .u32 0, .int .u32 0, .int .u32 0, .int .u32 0, .int .u32 0] 50)).setRow w6.heap.size (u32s l).toArray) := below_setRow (B6'.alloc (by omega) _) (by omega) _
  have sK : ∀ k, k < w6.heap.size → ((w6.alloc (.cells #[.int .u32 0, .int .u32 0, .int .u32 0, .int .u32 0, .int .u32 0, .int .u32 0, .int .u32 0, .int .u32 0] 50)).setRow w6.heap.size (u32s l).toArray).heap[k]? = w6.heap[k]? := fun k hk => by
    rw [setRow_other _ _ _ _ (by omega), Below.heap_alloc _ _ _ hk]
  generalize (w6.alloc (.cells #[.int .u32 0, .int .u32 0, .int .u32 0, .int .u32 0, .int .u32 0, .int .u32 0, .int .u32 0, .int .u32 0] 50)).setRow w6.heap.size (u32s l).toArray = w7 at *
  have s7 := Lib.hid ((sK _ g5).trans s6.out)
  have z7 := Lib.hid ((sK w.heap.size (by omega)).trans z6.out)
  have ST7 := Lib.hid st
  clear st sK s6 z6 NB sz so s1 B6' B5 B4 B3' B3 B2 n3 n4
  generalize w6.heap.size = gs at *
  generalize w4.heap.size = g at *
  go_loopw [15] (fun u wr => HtRel w g gs l u wr) (fun u _ => 8 - (intOf u).toNat)
  case atStart => exact ⟨0, rfl, Nat.zero_le _, by rw [s7.out]; rfl, ST7.out, z7.out, sB⟩
  case round =>
    clear s7 z7 ST7 sB
    obtain ⟨i, rfl, hi, r1, r2, r3, hBr⟩ := hrel
    by_cases h8 : i < 8
    · have c0 : wr.cell? ⟨gs, i, none⟩ = some (.int .u32 ((l.getD i 0 : Nat) : Int)) := by
        rw [cell_of_row wr _ i _ _ _ r2]
        simpa using u32s_get l i (by omega)
      have hx : l.getD i 0 < 4294967296 := hll _ (by rw [List.getD_eq_getElem?_getD, List.getElem?_eq_getElem (by omega)]; exact List.getElem_mem _)
      obtain ⟨x, hxe⟩ : ∃ x, x = l.getD i 0 := ⟨_, rfl⟩
      rw [← hxe] at hx c0
      have HX := Lib.hid hxe
      have R1 := Lib.hid r1
      have R2 := Lib.hid r2
      have R3 := Lib.hid r3
      have HL8 := Lib.hid hl8
      have p0 : (0 : Int) ≤ (i : Int) := by omega
      have j0 : (i : Int) < 8 := by omega
      have sl := fun w' => slice32 g (4 * i) (4 * (i : Int)) (by omega) (by omega) .i64 w'
      have hce := Lib.hid (four_bytes x hx)
      have hgw := Lib.hid (Array.getElem?_eq_some_iff.1 r1).1
      have hol : (ob1 x).length = 4 := rfl
      clear r1 r2 r3 hl8 hxe
      go_wp2_with (refine wpList_copy_own rfl (.tmp 23) (.tmp 35) 41 41 rfl 5 Tryd.underlying41 (by kernel_rfl) g (4 * i) (32 - 4 * i) (32 - 4 * i) ⟨wr.heap.size, 0, none⟩ 4 4 rfl rfl _ 43 ((Below.heap_alloc wr _ g hgw.out).trans R1.out) (bvs (ob1 x)) ?c1 ?c2 ?c3 ?c4 ?_)
      case c1 =>
        rw [bvs_length, hol]
        exact (Nat.min_eq_left (by omega)).symm
      case c2 =>
        intro j v hj
        rw [Addr.add_mid, Nat.zero_add, cell_of_row _ _ j _ _ _ (heap_alloc_new wr _), hce.out]
        simpa using hj
      case c3 =>
        rw [List.size_toArray, bvs_length, bvs_length, hol]
        have : (obTo l i).length = 32 := by
          unfold obTo
          rw [List.length_append, ob_length, List.length_take, HL8.out, List.length_replicate]
          omega
        omega
      case c4 =>
        intro v hv
        obtain ⟨_, _, rfl⟩ := List.mem_map.1 hv
        rfl
      have hlen : ((wr.alloc (.cells #[.int .u8 ((x : Int) / 16777216), .int .u8 ((x : Int) / 65536 % 256), .int .u8 ((x : Int) / 256 % 256), .int .u8 ((x : Int) % 256)] 5)).setRow g (List.take (4 * i) (bvs (obTo l i)) ++ (bvs (ob1 x) ++ List.drop (4 * i + (bvs (ob1 x)).length) (bvs (obTo l i)))).toArray).heap[g]? = some (.cells (bvs (obTo l (i + 1))).toArray 43 (0, 0)) := by
        rw [setRow_heap _ g _ _ _ _ ((Below.heap_alloc wr _ g hgw.out).trans R1.out), ← obTo_succ l HL8.out i h8, bvs_length, hol, HX.out]
        simp [bvs, List.map_take, List.map_drop]
      have hoth : ∀ k, k < wr.heap.size → k ≠ g → ∀ (o : Obj) (cs : Array Value), ((wr.alloc o).setRow g cs).heap[k]? = wr.heap[k]? := fun k hk hkg o cs => by
        rw [setRow_other _ _ _ _ hkg, Below.heap_alloc _ _ _ hk]
      exact ⟨⟨i + 1, by go_num, by omega, hlen, (hoth gs (Array.getElem?_eq_some_iff.1 R2.out).1 (by omega) _ _).trans R2.out, (hoth _ (Array.getElem?_eq_some_iff.1 R3.out).1 (by omega) _ _).trans R3.out, below_setRow (hBr.alloc (Nat.le_of_lt (Array.getElem?_eq_some_iff.1 R3.out).1) _) (by omega) _⟩, by simp [intOf]; omega⟩
    · obtain rfl : i = 8 := by omega
      have e8 : obTo l 8 = ob l := by
        unfold obTo
        rw [List.take_of_length_le (by omega)]
        simp
      rw [e8] at r1
      have hol : (bvs (ob l)).toArray.size = 32 := by rw [List.size_toArray, bvs_length, ob_length, hl8]
      have sz := Lib.hid (show (Tryd.prog.info? 43).map (·.size) = some (bvs (ob l)).toArray.size by rw [hol]; kernel_rfl)
      have so := Lib.hid (show Z32.toArray.size = (bvs (ob l)).toArray.size by rw [hol]; rfl)
      have s1 := Lib.hid (show (bvs (ob l)).toArray.all (·.oneCell') = true from all_oneCell_toArray (by
        intro v hv
        obtain ⟨_, _, rfl⟩ := List.mem_map.1 hv
        rfl))
      have R1 := Lib.hid r1
      have R3 := Lib.hid r3
      clear r1 r2 r3 e8 hol hl8
      go_wp2_with (first
        | (refine wpList_load_row rfl 43 (.tmp 4) rfl g rfl 43 _ (0, 0) _ R1.out Tryd.underlying43 rfl sz.out ?_)
        | (refine wpList_store_all rfl 43 (.tmp 2) (.tmp 38) rfl w.heap.size 43 Z32.toArray (bvs (ob l)).toArray rfl rfl R3.out sz.out so.out s1.out ?_))
      refine bodyPost_ret (results_cell_row rfl _ _ w.heap.size 43 (bvs (ob l)).toArray (0, 0) _ rfl (setRow_heap wr _ _ _ _ (0, 0) R3.out) Tryd.underlying43 rfl sz.out) rfl ?_
      refine ⟨?_, below_setRow hBr (Nat.le_refl _) _⟩
      unfold shaOf
      rw [← Ht.out, ← HL.out]
end Go.Proofs.YtejbookaflnpeabDoor
