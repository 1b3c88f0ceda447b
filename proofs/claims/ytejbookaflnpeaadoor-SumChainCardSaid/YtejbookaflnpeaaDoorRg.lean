/- The reference's Chain: its walk. -/
import Derived.Test.YtejbookaflnpeaaDoorOl
import Derived.Test.YtejbookaflnpeaaDoorCh
namespace Go.Proofs.YtejbookaflnpeaaDoor
open Go Go.RowKit
set_option linter.unusedVariables false

theorem Tryd.infoA32 : (Tryd.prog.info? 28).map (fun i => (i.zero, i.size, i.bytes)) = some (some (.agg Z32.toArray), 32, 32) := by kernel_rfl
theorem Tryd.len32b : Tryd.prog.arrayLen 28 = 32 := by kernel_rfl
theorem slice32b_all (g : Nat) (w : World) : (Instr.sliceAt 28 (.pointer (some ⟨g, 0, none⟩)) none none none).run Tryd.prog w = .ok (.slice (some ⟨g, 0, none⟩) 32 32) w := by
  have h := run_sliceAt_array_all (P := Tryd.prog) (a := ⟨g, 0, none⟩) w 28 (by kernel_rfl)
  obtain ⟨i0, hi, hz0, hz1, hz2⟩ := info_parts Tryd.info5
  have he : Tryd.prog.elem 28 = 5 := by kernel_rfl
  have hsz : (sizeOf 5).run Tryd.prog w = .ok 1 w := by simp [sizeOf, typeInfo, hi, hz1]
  rw [h]
  first
    | (rw [Tryd.len32b, he, hsz]; simp [slicedAt, Addr.add_mid])
    | (rw [Tryd.len32b, he, hsz]; simp [slicedAt]; rfl)
/-- A slice of strings reads as these texts. -/
def Sts (w : World) (v : Value) (T : List (List UInt8)) : Prop :=
  ∃ ao c, v = .slice ao T.length c ∧ (ao = none → T = []) ∧ ∀ a, ao = some a → ∀ j t, T[j]? = some t → w.cell? (a.add j) = some (.string (str t))
theorem Sts.below {w w' : World} {v : Value} {T : List (List UInt8)} {B : Nat} (h : Sts w v T) (hB : Below B w w') (hs : w.heap.size ≤ B) : Sts w' v T := by
  obtain ⟨ao, c, hv, hno, hc⟩ := h
  exact ⟨ao, c, hv, hno, fun a ha j t ht => cell_below hB hs (hc a ha j t ht)⟩
theorem src_sum {tx e : TypeId} (hk : Tryd.prog.underlying tx = some (.slice e)) (w : World) (l : List UInt8) (hl : l.length = 32) : Go.Src Tryd.prog 32 tx (.slice (some ⟨w.heap.size, 0, none⟩) 1 1) 1 (bvs l) (w.alloc (.cells (bvs l).toArray e)) :=
  Src.any _ (e' := e) hk _ 1 1 (bvs l) (by rw [bvs_length, hl]) (fun h => by cases h) (fun a ha j u hu => by
    cases ha
    rw [Addr.add_mid, Nat.zero_add, cell_of_row _ _ j _ _ _ (heap_alloc_new w _)]
    simpa using hu) (fun u hu => bvs_one l u hu)
theorem fold_set : ∀ (l : List Value) (o : Nat) (A : Array Value), o + l.length = A.size → (l.zipIdx o).foldl (fun cs x => cs.setIfInBounds x.snd x.fst) A = (A.toList.take o ++ l).toArray
  | [], o, A, h => by
    apply Array.toList_inj.1
    simp at h ⊢
    rw [List.take_of_length_le (by simp; omega)]
  | v :: l, o, A, h => by
    rw [List.length_cons] at h
    rw [List.zipIdx_cons, List.foldl_cons, fold_set l (o + 1) _ (by simp; omega)]
    apply Array.toList_inj.1
    have ho : o < A.toList.length := by simp; omega
    have e : (A.toList.set o v).take (o + 1) = A.toList.take o ++ [v] := by
      rw [List.set_eq_take_append_cons_drop, if_pos ho, show A.toList.take o ++ v :: A.toList.drop (o + 1) = (A.toList.take o ++ [v]) ++ A.toList.drop (o + 1) by simp]
      exact List.take_left' (by simp; omega)
    simp only [Array.toList_setIfInBounds, e]
    simp
def RgRel (w : World) (first : List UInt8) (T : List (List UInt8)) (v u : Value) (wr : World) : Prop :=
  ∃ k : Nat, u = .int .i64 (k : Int) ∧ k ≤ T.length ∧ wr.ownsRow (w.heap.size + 1) 28 32 v k (bvs (sumsTo S0 K0 first T k)) ∧ wr.heap[w.heap.size]? = some (.cells (bvs (prevS S0 K0 first T k)).toArray 28 (0, 0)) ∧ Below w.heap.size w wr
set_option maxRecDepth 100000 in
set_option maxHeartbeats 2000000 in
theorem refChain_any {w : World} {v : Value} {first : List UInt8} {T : List (List UInt8)} (hf : first.length = 32) (h : Sts w v T) (hT : T.length ≤ 1000) (hn : ∀ t ∈ T, t.length ≤ 900000) :
    Calls Tryd.prog 23 #[.agg (bvs first).toArray, v] w fun e w' => ∃ u, e = .returned u ∧ w'.ownsRow (w.heap.size + 1) 28 32 u T.length (bvs (sumsTo S0 K0 first T T.length)) ∧ Below w.heap.size w w' := by
  obtain ⟨iu, hiu, hu0, hu1, hu2⟩ := info_parts Tryd.infoA32
  obtain ⟨ao, c, rfl, hno, hs⟩ := id h
  have hTI : (T.length : Int) ≤ 1000 := by omega
  have HS := Lib.hid h
  have HF := Lib.hid hf
  have n0 := Lib.hid (heap_alloc_new w (.cells (bvs first).toArray 28))
  have HNO := Lib.hid hno
  clear hs h hno
  go_enter Tryd.func23, Tryd.ntmps23
  go_wp2_with fail
  go_loopw [5, 6] (fun v u wr => RgRel w first T v u wr) (fun _ u _ => T.length - (intOf u).toNat)
  case atStart => exact ⟨0, rfl, Nat.zero_le _, World.ownsRow_nil _ _ _ _, by have := n0.out; simpa [prevS] using this, (Below.refl _ _).alloc (Nat.le_refl _) _⟩
  case round =>
    clear n0
    obtain ⟨wr0, rfl⟩ : ∃ wr0 : World, wr0 = wr := ⟨_, rfl⟩
    obtain ⟨k, rfl, hk, own, r2, hBr⟩ := hrel
    by_cases hkl : k < T.length
    · obtain ⟨ad, rfl⟩ : ∃ ad, ao = some ad := by
        cases ao with
        | none => have := HNO.out rfl; rw [this] at hkl; simp at hkl
        | some ad => exact ⟨ad, rfl⟩
      obtain ⟨ao', c', hv', _, hs'⟩ := HS.out.below hBr (Nat.le_refl _)
      obtain ⟨rfl, rfl⟩ : some ad = ao' ∧ c = c' := by simpa using hv'
      obtain ⟨t, ht⟩ : ∃ t, t = T[k] := ⟨_, rfl⟩
      have cell := hs' ad rfl k t (by rw [ht]; exact List.getElem?_eq_getElem hkl)
      have htn := hn t (by rw [ht]; exact List.getElem_mem _)
      have hTk : T.getD k [] = t := by rw [ht]; simp [List.getD, hkl]
      have hpl := prevS_length S0 K0 first T HF.out k
      have hpl1 := prevS_length S0 K0 first T HF.out (k + 1)
      have hps : prevS S0 K0 first T (k + 1) = shaL S0 K0 (prevS S0 K0 first T k ++ t) := by rw [prevS, hTk]
      have hss : sumsTo S0 K0 first T (k + 1) = sumsTo S0 K0 first T k ++ prevS S0 K0 first T (k + 1) := rfl
      have hBs := Bs.ofRow (k := 32) (c := 32) hpl (Nat.le_refl _) r2
      obtain ⟨L0, hL0⟩ : ∃ L0, L0 = sumsTo S0 K0 first T k := ⟨_, rfl⟩
      obtain ⟨L1, hL1⟩ : ∃ L1, L1 = sumsTo S0 K0 first T (k + 1) := ⟨_, rfl⟩
      have HEND := Lib.hid (show ∀ v' wf, wf.ownsRow (w.heap.size + 1) 28 32 v' (k + 1) (bvs L1) → wf.heap[w.heap.size]? = some (.cells (bvs (prevS S0 K0 first T (k + 1))).toArray 28 (0, 0)) → Below w.heap.size w wf → RgRel w first T v' (.int .i64 ((k : Int) + 1)) wf from
        fun v' wf h1 h2 h3 => ⟨k + 1, by go_num, by omega, by rw [← hL1]; exact h1, h2, h3⟩)
      rw [← hL0] at own hss
      rw [← hL1] at hss
      clear hs' hv' hL0 hL1 hTk ht
      generalize prevS S0 K0 first T (k + 1) = p1 at *
      generalize prevS S0 K0 first T k = p0 at *
      have rf : ∀ W, Calls Tryd.prog 19 #[.string (str p0 ++ str t)] W fun e w' => e = .returned (.agg (bvs p1).toArray) ∧ Below W.heap.size W w' := fun W => by
        rw [str_app]
        refine (refOf_any W (str (p0 ++ t)) (by rw [str_size, List.length_append, hpl]; omega)).mono fun _ _ h' => ⟨?_, h'.2⟩
        rw [h'.1, str_list, hps, show shaL S0 K0 (p0 ++ t) = shaR S0 K0 (p0 ++ t) from sha_R S0 K0 rfl S0_lt (p0 ++ t)]
      have RF := Lib.hid rf
      have cv : ∀ m, (convert 22 9 (.slice (some ⟨w.heap.size, 0, none⟩) 32 32)).run Tryd.prog (wr0.drewN m) = .ok (.string (str p0)) (wr0.drewN m) := fun m =>
        (hBs.below (below_drewN (Below.refl wr0.heap.size wr0) m) (Nat.le_refl _)).str
      have sl := slice32b_all w.heap.size
      have OWN := Lib.hid own
      have R2 := Lib.hid r2
      have HBR := Lib.hid hBr
      have HSS := Lib.hid hss
      have HPL1 := Lib.hid hpl1
      have HPL := Lib.hid hpl
      have hkI : (k : Int) < (T.length : Int) := by omega
      have hz1 : (str p0).size = 32 := by rw [str_size, hpl]
      obtain ⟨tz, htz⟩ : ∃ tz, (str t).size = tz := ⟨_, rfl⟩
      have htz2 : tz ≤ 900000 := by rw [← htz, str_size]; exact htn
      have htzI : (tz : Int) ≤ 900000 := by omega
      clear own r2 hBr hss hps rf hBs hpl hpl1 htn
      go_wp2_with fail
      (refine wp_region_quiet_tail 7 (by kernel_rfl) (by kernel_rfl) ?_; simp only [List.take_succ_cons, List.take_zero, List.drop_succ_cons, List.drop_zero]; (repeat (go_big_quiet_step (fail))); refine wpQuiet_nil ?_; intro _ hw'; obtain ⟨nq, hw''⟩ := hw'; subst hw'')
      obtain ⟨wg, hwg⟩ : ∃ wg, wg = wr0.drewN nq := ⟨_, rfl⟩
      rw [← hwg]
      have HBg := Lib.hid (show Below w.heap.size w wg by rw [hwg]; exact below_drewN HBR.out nq)
      have OWNg := Lib.hid (show wg.ownsRow (w.heap.size + 1) 28 32 u5 k (bvs L0) by rw [hwg]; exact OWN.out)
      have R2g := Lib.hid (show wg.heap[w.heap.size]? = some (.cells (bvs p0).toArray 28 (0, 0)) by
        rw [hwg]; exact ((below_drewN (Below.refl wr0.heap.size wr0) nq).block _ (Array.getElem?_eq_some_iff.1 R2.out).1).trans R2.out)
      clear hwg cv HBR OWN R2 sl cell
      go_wp2_with fail
      refine (RF.out _).mono ?_
      rintro e w5 ⟨rfl, B5⟩
      have hlt : w.heap.size < wg.heap.size := (Array.getElem?_eq_some_iff.1 R2g.out).1
      have p5 := (B5.block _ hlt).trans R2g.out
      have p6 := setRow_heap w5 w.heap.size _ (bvs p1).toArray 28 (0, 0) p5
      have hB5 := HBg.out.trans (B5.mono HBg.out.size)
      have hB6 := below_setRow hB5 (Nat.le_refl w.heap.size) (bvs p1).toArray
      have own6 : (w5.setRow w.heap.size (bvs p1).toArray).ownsRow (w.heap.size + 1) 28 32 u5 k (bvs L0) := own_keep OWNg.out (fun g hg => by
        have l1 := (OWNg.out.lt g hg)
        rw [setRow_other _ _ _ _ (by omega)]
        exact B5.block _ l1.2)
      have sz := Lib.hid (show (Tryd.prog.info? 28).map (·.size) = some (bvs p1).toArray.size by rw [List.size_toArray, bvs_length, HPL1.out]; kernel_rfl)
      have so := Lib.hid (show (bvs p0).toArray.size = (bvs p1).toArray.size by rw [List.size_toArray, List.size_toArray, bvs_length, bvs_length, HPL1.out, HPL.out])
      have s1 := Lib.hid (show (bvs p1).toArray.all (·.oneCell') = true from all_oneCell_toArray (bvs_one _))
      have P5 := Lib.hid p5
      have P6 := Lib.hid p6
      have HB6 := Lib.hid hB6
      have OWN6 := Lib.hid own6
      clear p5 p6 hB5 hB6 own6 B5 R2g OWNg HBg RF
      have fs := fold_set (bvs p1) 0 Z32.toArray (by rw [Nat.zero_add, bvs_length, HPL1.out]; rfl)
      rw [List.take_zero, List.nil_append, Z32_eq] at fs
      have FS := Lib.hid fs
      have src := src_sum (tx := 44) Tryd.underlying44 (w5.setRow w.heap.size (bvs p1).toArray) p1 HPL1.out
      rw [size_setRow] at src
      have SRC := Lib.hid src
      have zb := HB6.out.size
      have hz6 : w.heap.size < w5.heap.size := by
        have := (Array.getElem?_eq_some_iff.1 P5.out).1
        exact this
      have hnext : ∀ v' w', Grew ((w5.setRow w.heap.size (bvs p1).toArray).alloc (.cells (bvs p1).toArray 28)) w' (w.heap.size + 1) 28 32 u5 v' (k + 1) (bvs L0 ++ bvs p1) → RgRel w first T v' (.int .i64 ((k : Int) + 1)) w' := by
        rintro v' w' ⟨h1, h2, h3⟩
        have hlt := OWN6.out.lt
        refine HEND.out v' w' ?_ ?_ ?_
        · rw [HSS.out]; simpa [bvs] using h1
        · rw [h2.block w.heap.size (by simp; omega) (fun e => by have := (hlt _ e.symm).1; omega), Below.heap_alloc _ _ _ (by simp; omega)]
          exact P6.out
        · exact (HB6.out.alloc HB6.out.size _).grown h2 (by simp; omega) (fun g e => by have := (hlt g e).1; omega)
      have HNX := Lib.hid hnext
      have hb32 : (bvs p1).length = 32 := by rw [bvs_length, HPL1.out]
      clear hnext fs src zb
      go_wp2_with (first
        | (refine wpList_store_all rfl 28 (.tmp 2) (.tmp 20) rfl w.heap.size 28 (bvs p0).toArray (bvs p1).toArray rfl rfl P5.out sz.out so.out s1.out ?_)
        | (refine wpList_load_row rfl 28 (.tmp 2) rfl w.heap.size rfl 28 (bvs p1).toArray (0, 0) _ P6.out Tryd.underlying28 rfl sz.out ?_)
        | (at_builtin; rw [FS.out]; refine wpList_append_own_src _ rfl (.tmp 21) (.tmp 23) 44 44 rfl (w.heap.size + 1) 28 iu (.agg Z32.toArray) 32 32 Tryd.underlying44 hiu hu0 hu1 hu2 rfl _ k (bvs L0) rfl (OWN6.out.alloc _) _ 1 (bvs p1) rfl SRC.out ?b1 ?b2 ?b3 ?next))
      case b1 => unfold maxLen; omega
      case b2 => omega
      case b3 => simp; omega
      case next =>
        intro v' w' hG
        have N1 := Lib.hid (HNX.out v' w' hG)
        clear HNX hG OWN6 P5 P6 HB6 SRC FS
        go_wp2_with fail
        exact ⟨N1.out, by simp [intOf]; omega⟩
    · obtain rfl : k = T.length := by omega
      have OWN := Lib.hid own
      have HBR := Lib.hid hBr
      clear own hBr r2
      go_wp2_with fail
      go_ret
      exact ⟨_, rfl, OWN.out, HBR.out⟩
end Go.Proofs.YtejbookaflnpeaaDoor
