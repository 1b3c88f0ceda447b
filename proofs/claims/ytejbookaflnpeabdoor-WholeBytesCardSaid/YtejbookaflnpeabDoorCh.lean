/- Chain: a chain of sums. -/
import Derived.Test.YtejbookaflnpeabDoorLk
import Derived.Laws.IdiomCopy
import Derived.Laws.MakeOwn
namespace Go.Proofs.YtejbookaflnpeabDoor
open Go Go.RowKit
set_option linter.unusedVariables false

theorem heap_setCells_at (g : Nat) (t : TypeId) : ∀ (vs : List Value) (o : Nat) (w : World) (cur : Array Value), w.heap[g]? = some (.cells cur t (0, 0)) → o + vs.length ≤ cur.size →
    (w.setCells g o vs).heap[g]? = some (.cells (cur.toList.take o ++ (vs ++ cur.toList.drop (o + vs.length))).toArray t (0, 0))
  | [], o, w, cur, h, _ => by simpa [World.setCells] using h
  | v :: vs, o, w, cur, h, ho => by
    rw [World.setCells]
    have h1 := heap_setCell_same w g o _ _ v h
    simp only [List.length_cons] at ho
    rw [heap_setCells_at g t vs (o + 1) _ _ h1 (by simp; omega)]
    congr 3
    have ho' : o < cur.toList.length := by simp; omega
    rw [Array.toList_setIfInBounds, List.take_set, List.drop_set, if_pos (by omega), List.take_succ_eq_append_getElem ho', List.set_append_right _ _ (by simp; omega)]
    simp [Nat.min_eq_left (Nat.le_of_lt (show o < cur.size by omega)), Nat.add_assoc, Nat.add_comm 1]
theorem Below.heap_setCells_other' (w : World) (g : Nat) : ∀ (o : Nat) (vs : List Value) (i : Nat), i ≠ g → (w.setCells g o vs).heap[i]? = w.heap[i]? := by
  intro o vs
  induction vs generalizing o w with
  | nil => intro i _; rfl
  | cons v vs ih =>
    intro i hi
    rw [World.setCells, ih _ _ i hi, heap_setCell_other _ _ _ _ (by simpa using hi)]
theorem setCells_size (g : Nat) : ∀ (vs : List Value) (o : Nat) (w : World), (w.setCells g o vs).heap.size = w.heap.size
  | [], _, _ => rfl
  | v :: vs, o, w => by rw [World.setCells, setCells_size g vs]; simp
theorem setCells_below {B : Nat} {w : World} (g : Nat) (hg : B ≤ g) : ∀ (vs : List Value) (o : Nat) {w' : World}, Below B w w' → Below B w (w'.setCells g o vs)
  | [], _, _, h => h
  | v :: vs, o, _, h => setCells_below g hg vs (o + 1) (h.setCell hg v)
theorem there_of_row {w : World} {g t o n : Nat} {cur : Array Value} (h : w.heap[g]? = some (.cells cur t (0, 0))) (ho : o + n ≤ cur.size) : w.there g o n := fun j hj => by
  refine ⟨?_, frozen_of_row w g _ _ _ h⟩
  rw [cell_of_row w g (o + j) _ _ _ h]
  have : o + j < cur.size := by omega
  simp [this]
/-- The sum ahead of text k. -/
def prevS (S K : List Nat) (first : List UInt8) (T : List (List UInt8)) : Nat → List UInt8
  | 0 => first
  | k + 1 => shaL S K (prevS S K first T k ++ T.getD k [])
def sumsTo (S K : List Nat) (first : List UInt8) (T : List (List UInt8)) : Nat → List UInt8
  | 0 => []
  | k + 1 => sumsTo S K first T k ++ prevS S K first T (k + 1)
theorem prevS_length (S K : List Nat) (first : List UInt8) (T : List (List UInt8)) (h : first.length = 32) : ∀ k, (prevS S K first T k).length = 32
  | 0 => h
  | k + 1 => shaL_length _ _ _
theorem sumsTo_length (S K : List Nat) (first : List UInt8) (T : List (List UInt8)) : ∀ k, (sumsTo S K first T k).length = 32 * k
  | 0 => rfl
  | k + 1 => by
    have h := sumsTo_length S K first T k
    have h2 : (prevS S K first T (k + 1)).length = 32 := shaL_length _ _ _
    show (sumsTo S K first T k ++ prevS S K first T (k + 1)).length = _
    rw [List.length_append, h, h2]; omega
def chTo (S K : List Nat) (first : List UInt8) (T : List (List UInt8)) (k : Nat) : List UInt8 := sumsTo S K first T k ++ List.replicate (32 * (T.length - k)) 0
theorem chTo_length (S K : List Nat) (first : List UInt8) (T : List (List UInt8)) (k : Nat) (hk : k ≤ T.length) : (chTo S K first T k).length = 32 * T.length := by
  rw [chTo, List.length_append, sumsTo_length, List.length_replicate]; omega
theorem chTo_succ (S K : List Nat) (first : List UInt8) (T : List (List UInt8)) (k : Nat) (hk : k < T.length) :
    (chTo S K first T k).take (32 * k) ++ (prevS S K first T (k + 1) ++ (chTo S K first T k).drop (32 * k + 32)) = chTo S K first T (k + 1) := by
  unfold chTo
  have h := sumsTo_length S K first T k
  rw [List.take_append_of_le_length (by omega), List.take_of_length_le (by omega), List.drop_append, List.drop_of_length_le (by omega), h, List.nil_append, List.drop_replicate]
  show _ = (sumsTo S K first T k ++ prevS S K first T (k + 1)) ++ _
  rw [List.append_assoc]
  congr 3
  omega
theorem Tryd.infoSum : (Tryd.prog.info? 43).map (fun i => (i.zero, i.size, i.bytes)) = some (some (.agg Z32.toArray), 32, 32) := by kernel_rfl
theorem made_sums (n : Nat) : madeCells Z32.toArray (n * 32) = (bvs (List.replicate (32 * n) 0)).toArray := by
  apply Array.toList_inj.1
  apply List.ext_getElem?
  intro j
  have hz : Z32.toArray.size = 32 := by simp [Z32, bvs]
  by_cases hj : j < n * 32
  · have hj' : j < 32 * n := by omega
    have hm : j % 32 < 32 := Nat.mod_lt _ (by decide)
    have hg : Z32.toArray[j % 32]? = some (bv 0) := by
      simp only [Z32, bvs, List.map_replicate, List.getElem?_toArray, List.getElem?_replicate, hm, if_pos]
    have hg' : Z32.toArray[j % 32]! = bv 0 := by rw [getElem!_def, hg]
    have hg2 : Z32[j % 32]?.getD default = bv 0 := by rw [← List.getElem?_toArray, hg]; rfl
    simp [madeCells, hj, hj', bvs, hz, hg2]
  · have hj' : ¬ j < 32 * n := by omega
    simp [madeCells, hj, hj', bvs]
theorem make_sums (n : Nat) (hn : n ≤ 1000000000000) (w : World) : (Instr.makeSlice 59 (.int .i64 (n : Int)) (.int .i64 (n : Int))).run Tryd.prog w = .ok (.slice (some ⟨w.heap.size, 0, none⟩) n n) (w.alloc (.cells (bvs (List.replicate (32 * n) 0)).toArray 43)) := by
  obtain ⟨i, hi, hz, hs, hb⟩ := info_parts Tryd.infoSum
  have h := run_make (P := Tryd.prog) w 59 43 i _ Tryd.underlying59 hi hz .i64 .i64 n n (by omega) (Int.le_refl _) (by rw [hb]; omega) (by omega)
  simp only [Int.toNat_natCast, hs] at h
  rw [h]
  show _ = Result.ok _ (w.alloc (.cells (bvs (List.replicate (32 * n) 0)).toArray 43))
  rw [← made_sums]
  rfl
def ChRel (w : World) (g gp : Nat) (S K : List Nat) (first : List UInt8) (T : List (List UInt8)) (u : Value) (wr : World) : Prop :=
  ∃ k : Nat, u = .int .i64 (k : Int) ∧ k ≤ T.length ∧ wr.heap[g]? = some (.cells (bvs (chTo S K first T k)).toArray 43 (0, 0)) ∧ wr.heap[gp]? = some (.cells (bvs (prevS S K first T k)).toArray 43 (0, 0)) ∧ Below w.heap.size w wr
set_option maxRecDepth 100000 in
set_option maxHeartbeats 2000000 in
theorem chain_any {w : World} {v : Value} {first : List UInt8} {L : List (Value × List UInt8)} (hf : first.length = 32) (h : Pt w v L) {S K : List Nat} (ht : Tables w S K) (hL : L.length ≤ 1000000000000) (hn : ∀ p ∈ L, p.2.length < 1152921504606846900) :
    Calls Tryd.prog 19 #[.agg (bvs first).toArray, v] w fun e w' => ∃ g, e = .returned (.slice (some ⟨g, 0, none⟩) L.length L.length) ∧ w.heap.size ≤ g ∧ w'.heap[g]? = some (.cells (bvs (sumsTo S K first (L.map (·.2)) L.length)).toArray 43 (0, 0)) ∧ Below w.heap.size w w' := by
  have TL := ht.lt
  obtain ⟨ao, c, rfl, hno, hs⟩ := id h
  have mk := make_sums L.length hL
  have hfs : (bvs first).toArray.size = 32 := by rw [List.size_toArray, bvs_length, hf]
  have sz := Lib.hid (show (Tryd.prog.info? 43).map (·.size) = some (bvs first).toArray.size by rw [hfs]; kernel_rfl)
  have so := Lib.hid (show Z32.toArray.size = (bvs first).toArray.size by rw [hfs]; rfl)
  have s1 := Lib.hid (show (bvs first).toArray.all (·.oneCell') = true from all_oneCell_toArray (bvs_one _))
  have HT := Lib.hid ht
  have HP := Lib.hid h
  have HF := Lib.hid hf
  have b0 := Lib.hid (fun o => ((Below.heap_alloc (w.alloc (.cells (bvs first).toArray 43)) o w.heap.size (by simp)).trans (heap_alloc_new w (.cells (bvs first).toArray 43))))
  clear hfs hs ht h hf
  go_enter Tryd.func19, Tryd.ntmps19
  obtain ⟨w2, hw2⟩ : ∃ w2, w2 = (w.alloc (.cells (bvs first).toArray 43)).alloc (.cells (bvs (List.replicate (32 * L.length) 0)).toArray 43) := ⟨_, rfl⟩
  have n2 : w2.heap.size = w.heap.size + 2 := by rw [hw2]; simp
  have B2 : Below w.heap.size w w2 := by
    rw [hw2]
    exact ((Below.refl _ _).alloc (Nat.le_refl _) _).alloc (by simp) _
  have m2 : w2.heap[w.heap.size + 1]? = some (.cells (bvs (List.replicate (32 * L.length) 0)).toArray 43 (0, 0)) := by
    have := heap_alloc_new (w.alloc (.cells (bvs first).toArray 43)) (.cells (bvs (List.replicate (32 * L.length) 0)).toArray 43)
    rw [World.size_alloc] at this
    rw [hw2]
    exact this
  have nb : (w2.alloc (.cells #[.int .u8 0, .int .u8 0, .int .u8 0, .int .u8 0, .int .u8 0, .int .u8 0, .int .u8 0, .int .u8 0, .int .u8 0, .int .u8 0, .int .u8 0, .int .u8 0, .int .u8 0, .int .u8 0, .int .u8 0, .int .u8 0, .int .u8 0, .int .u8 0, .int .u8 0, .int .u8 0, .int .u8 0, .int .u8 0, .int .u8 0, .int .u8 0, .int .u8 0, .int .u8 0, .int .u8 0, .int .u8 0, .int .u8 0, .int .u8 0, .int .u8 0, .int .u8 0] 43)).heap[w.heap.size + 2]? = some (.cells Z32.toArray 43 (0, 0)) := by
    rw [← n2, Z32_eq]
    exact heap_alloc_new w2 _
  have NB := Lib.hid (show (((w.alloc (.cells (bvs first).toArray 43)).alloc (.cells (bvs (List.replicate (32 * L.length) 0)).toArray 43)).alloc (.cells #[.int .u8 0, .int .u8 0, .int .u8 0, .int .u8 0, .int .u8 0, .int .u8 0, .int .u8 0, .int .u8 0, .int .u8 0, .int .u8 0, .int .u8 0, .int .u8 0, .int .u8 0, .int .u8 0, .int .u8 0, .int .u8 0, .int .u8 0, .int .u8 0, .int .u8 0, .int .u8 0, .int .u8 0, .int .u8 0, .int .u8 0, .int .u8 0, .int .u8 0, .int .u8 0, .int .u8 0, .int .u8 0, .int .u8 0, .int .u8 0, .int .u8 0, .int .u8 0] 43)).heap[w.heap.size + 1 + 1]? = some (.cells Z32.toArray 43 (0, 0)) by rw [← hw2]; exact nb)
  have HW2 := Lib.hid hw2
  have N2 := Lib.hid n2
  have M2 := Lib.hid m2
  clear hw2 n2 m2 nb
  go_wp2_with (first
    | (refine wpList_load_row rfl 43 (.tmp 2) rfl w.heap.size rfl 43 _ (0, 0) _ (b0.out _) Tryd.underlying43 rfl sz.out ?_)
    | (refine wpList_store_all rfl 43 (.tmp 6) (.tmp 12) rfl (w.heap.size + 1 + 1) 43 Z32.toArray _ rfl rfl NB.out sz.out so.out s1.out ?_))
  rw [← HW2.out]
  have n2 := N2.out
  have nb := NB.out
  rw [← HW2.out] at nb
  have st := setRow_heap _ (w.heap.size + 1 + 1) _ (bvs first).toArray 43 (0, 0) nb
  have sB : Below w.heap.size w ((w2.alloc (.cells #[.int .u8 0, .int .u8 0, .int .u8 0, .int .u8 0, .int .u8 0, .int .u8 0, .int .u8 0, .int .u8 0, .int .u8 0, .int .u8 0, .int .u8 0, .int .u8 0, .int .u8 0, .int .u8 0, .int .u8 0, .int .u8 0, .int .u8 0, .int .u8 0, .int .u8 0, .int .u8 0, .int .u8 0, .int .u8 0, .int .u8 0, .int .u8 0, .int .u8 0, .int .u8 0, .int .u8 0, .int .u8 0, .int .u8 0, .int .u8 0, .int .u8 0, .int .u8 0] 43)).setRow (w.heap.size + 1 + 1) (bvs first).toArray) := below_setRow (B2.alloc (by omega) _) (by omega) _
  have sM : ((w2.alloc (.cells #[.int .u8 0, .int .u8 0, .int .u8 0, .int .u8 0, .int .u8 0, .int .u8 0, .int .u8 0, .int .u8 0, .int .u8 0, .int .u8 0, .int .u8 0, .int .u8 0, .int .u8 0, .int .u8 0, .int .u8 0, .int .u8 0, .int .u8 0, .int .u8 0, .int .u8 0, .int .u8 0, .int .u8 0, .int .u8 0, .int .u8 0, .int .u8 0, .int .u8 0, .int .u8 0, .int .u8 0, .int .u8 0, .int .u8 0, .int .u8 0, .int .u8 0, .int .u8 0] 43)).setRow (w.heap.size + 1 + 1) (bvs first).toArray).heap[w.heap.size + 1]? = some (.cells (bvs (List.replicate (32 * L.length) 0)).toArray 43 (0, 0)) := by
    rw [setRow_other _ _ _ _ (by omega), Below.heap_alloc _ _ _ (by omega)]
    exact M2.out
  generalize (w2.alloc (.cells #[.int .u8 0, .int .u8 0, .int .u8 0, .int .u8 0, .int .u8 0, .int .u8 0, .int .u8 0, .int .u8 0, .int .u8 0, .int .u8 0, .int .u8 0, .int .u8 0, .int .u8 0, .int .u8 0, .int .u8 0, .int .u8 0, .int .u8 0, .int .u8 0, .int .u8 0, .int .u8 0, .int .u8 0, .int .u8 0, .int .u8 0, .int .u8 0, .int .u8 0, .int .u8 0, .int .u8 0, .int .u8 0, .int .u8 0, .int .u8 0, .int .u8 0, .int .u8 0] 43)).setRow (w.heap.size + 1 + 1) (bvs first).toArray = w3 at *
  have ST := Lib.hid st
  have SM := Lib.hid sM
  clear st sM nb n2 NB M2 HW2 N2 B2 mk b0 sz so s1
  clear w2
  go_loopw [15] (fun u wr => ChRel w (w.heap.size + 1) (w.heap.size + 1 + 1) S K first (L.map (·.2)) u wr) (fun u _ => L.length - (intOf u).toNat)
  case atStart => exact ⟨0, rfl, Nat.zero_le _, by rw [SM.out]; simp [chTo, sumsTo], ST.out, sB⟩
  case round =>
    clear ST SM sB
    obtain ⟨k, rfl, hk, r1, r2, hBr⟩ := hrel
    rw [List.length_map] at hk
    by_cases hkl : k < L.length
    · obtain ⟨ad, rfl⟩ : ∃ ad, ao = some ad := by
        cases ao with
        | none => have := hno rfl; omega
        | some ad => exact ⟨ad, rfl⟩
      obtain ⟨ao', c', hv', _, hs'⟩ := HP.out.below hBr (Nat.le_refl _)
      obtain ⟨rfl, rfl⟩ : some ad = ao' ∧ c = c' := by simpa using hv'
      obtain ⟨p, hp⟩ : ∃ p, p = L[k] := ⟨_, rfl⟩
      obtain ⟨cell, src⟩ := hs' ad rfl k p (by rw [hp]; exact List.getElem?_eq_getElem hkl)
      have hpn := hn p (by rw [hp]; exact List.getElem_mem _)
      have hT : (L.map (·.2)).getD k [] = p.2 := by rw [hp]; simp [List.getD, hkl]
      have hpl := prevS_length S K first (L.map (·.2)) HF.out k
      have hpl1 := prevS_length S K first (L.map (·.2)) HF.out (k + 1)
      have C := link_any hpl src (HT.out.below hBr (Nat.le_refl _)) hpn
      have hps : prevS S K first (L.map (·.2)) (k + 1) = shaL S K (prevS S K first (L.map (·.2)) k ++ p.2) := by rw [prevS, hT]
      rw [← hps] at C
      have hcl : (chTo S K first (L.map (·.2)) k).length = 32 * L.length := by
        rw [chTo_length _ _ _ _ _ (by rw [List.length_map]; omega), List.length_map]
      have hcs := chTo_succ S K first (L.map (·.2)) k (by rw [List.length_map]; exact hkl)
      have end1 : ∀ wf : World, wf.heap[w.heap.size + 1]? = some (.cells (bvs (chTo S K first (L.map (·.2)) (k + 1))).toArray 43 (0, 0)) → wf.heap[w.heap.size + 1 + 1]? = some (.cells (bvs (prevS S K first (L.map (·.2)) (k + 1))).toArray 43 (0, 0)) → Below w.heap.size w wf → ChRel w (w.heap.size + 1) (w.heap.size + 1 + 1) S K first (L.map (·.2)) (.int .i64 ((k : Int) + 1)) wf :=
        fun wf h1 h2 h3 => ⟨k + 1, by go_num, by rw [List.length_map]; omega, h1, h2, h3⟩
      have END := Lib.hid end1
      obtain ⟨v1, xs⟩ := p
      dsimp only at C cell src
      clear hps hs' hv' hp hT src hpn end1
      generalize prevS S K first (L.map (·.2)) (k + 1) = p1 at *
      generalize prevS S K first (L.map (·.2)) k = p0 at *
      generalize chTo S K first (L.map (·.2)) (k + 1) = c1 at *
      generalize chTo S K first (L.map (·.2)) k = c0 at *
      have HC := Lib.hid C
      have R1 := Lib.hid r1
      have R2 := Lib.hid r2
      have sz := Lib.hid (show (Tryd.prog.info? 43).map (·.size) = some (bvs p0).toArray.size by rw [List.size_toArray, bvs_length, hpl]; kernel_rfl)
      have sz1 := Lib.hid (show (Tryd.prog.info? 43).map (·.size) = some (bvs p1).toArray.size by rw [List.size_toArray, bvs_length, hpl1]; kernel_rfl)
      have so := Lib.hid (show (bvs p0).toArray.size = (bvs p1).toArray.size by rw [List.size_toArray, List.size_toArray, bvs_length, bvs_length, hpl, hpl1])
      have s1 := Lib.hid (show (bvs p1).toArray.all (·.oneCell') = true from all_oneCell_toArray (bvs_one _))
      have q0 : (0 : Int) ≤ (k : Int) := by omega
      have q1 : (k : Int) < (L.length : Int) := by omega
      have hroom : k * 32 + (bvs p1).toArray.size ≤ (bvs c0).toArray.size := by
        rw [List.size_toArray, List.size_toArray, bvs_length, bvs_length, hcl, hpl1]; omega
      have he : (bvs c0).take (k * 32) ++ (bvs p1 ++ (bvs c0).drop (k * 32 + (bvs p1).length)) = bvs c1 := by
        rw [← hcs, bvs_length, hpl1, Nat.mul_comm k 32]
        simp [bvs, List.map_take, List.map_drop]
      have HE := Lib.hid he
      have HR := Lib.hid hroom
      clear C r1 r2 hcs hcl hpl hpl1 he hroom
      go_wp2_with (first
        | (refine wpList_load_row rfl 43 (.tmp 6) rfl (w.heap.size + 1 + 1) rfl 43 (bvs p0).toArray (0, 0) _ R2.out Tryd.underlying43 rfl sz.out ?_))
      refine HC.out.mono ?_
      rintro e w5 ⟨rfl, B5⟩
      have p5 := (B5.block _ (Array.getElem?_eq_some_iff.1 R2.out).1).trans R2.out
      have g5 := (B5.block _ (Array.getElem?_eq_some_iff.1 R1.out).1).trans R1.out
      have hB5 := hBr.trans (B5.mono hBr.size)
      have P5 := Lib.hid p5
      have p6 := setRow_heap w5 (w.heap.size + 1 + 1) _ (bvs p1).toArray 43 (0, 0) p5
      have g6 := (setRow_other w5 (w.heap.size + 1 + 1) (w.heap.size + 1) (bvs p1).toArray (by omega)).trans g5
      have hB6 := below_setRow hB5 (show w.heap.size ≤ w.heap.size + 1 + 1 by omega) (bvs p1).toArray
      have TH := Lib.hid (there_of_row g6 HR.out)
      have hg7 := heap_setCells_at (w.heap.size + 1) 43 (bvs p1) (k * 32) _ _ g6 (by simpa using HR.out)
      rw [List.toList_toArray, HE.out] at hg7
      have HG7 := Lib.hid hg7
      have HP7 := Lib.hid ((Below.heap_setCells_other' _ (w.heap.size + 1) (k * 32) (bvs p1) (w.heap.size + 1 + 1) (by omega)).trans p6)
      have HB7 := Lib.hid (setCells_below (w.heap.size + 1) (by omega) (bvs p1) (k * 32) hB6)
      have P6 := Lib.hid p6
      clear HC p5 g5 B5 hB5 hg7 hB6 p6 g6
      go_wp2_with (first
        | (refine wpList_store_all rfl 43 (.tmp 6) (.tmp 22) rfl (w.heap.size + 1 + 1) 43 (bvs p0).toArray (bvs p1).toArray rfl rfl P5.out sz1.out so.out s1.out ?_)
        | (refine wpList_load_row rfl 43 (.tmp 6) rfl (w.heap.size + 1 + 1) rfl 43 (bvs p1).toArray (0, 0) _ P6.out Tryd.underlying43 rfl sz1.out ?_)
        | (refine wpList_store_mid rfl 43 (.tmp 26) (.tmp 25) rfl (w.heap.size + 1) (k * 32) (bvs p1).toArray rfl rfl TH.out sz1.out s1.out ?_))
      exact ⟨END.out _ HG7.out HP7.out HB7.out, by simp [intOf]; omega⟩
    · obtain rfl : k = L.length := by omega
      have hc : chTo S K first (L.map (·.2)) L.length = sumsTo S K first (L.map (·.2)) L.length := by simp [chTo]
      rw [hc] at r1
      have R1 := Lib.hid r1
      clear r1 r2 hc
      go_wp2_with fail
      go_ret
      exact ⟨w.heap.size + 1, rfl, by omega, R1.out, hBr⟩
end Go.Proofs.YtejbookaflnpeabDoor
