/- The law SumParts: its walk. -/
import Derived.Test.YtejbookaflnpeaaDoorBi
namespace Go.Proofs.YtejbookaflnpeaaDoor
open Go Go.RowKit
set_option linter.unusedVariables false

def PaRel (w : World) (L : List (Value × List UInt8)) (va u : Value) (wr : World) : Prop :=
  ∃ k : Nat, u = .int .i64 (k : Int) ∧ k ≤ L.length ∧ wr.ownsRow w.heap.size 5 1 va (bytesOf (L.take k)).length (bvs (bytesOf (L.take k))) ∧ (bytesOf (L.take k)).length ≤ 300 * k ∧ (∀ j (h : j < L.length), j < k → (L[j]).2.length ≤ 300) ∧ Below w.heap.size w wr
def PbRel (w w8 : World) (L : List (Value × List UInt8)) (va u : Value) (wr : World) : Prop :=
  ∃ k : Nat, u = .int .i64 (k : Int) ∧ k ≤ L.length ∧ wr.ownsRow w8.heap.size 5 1 va (bytesOf (L.take k)).length (bvs (bytesOf (L.take k))) ∧ (bytesOf (L.take k)).length ≤ 300 * k ∧ Below w8.heap.size w8 wr
theorem run_loadAt_row {w : World} {g t : Nat} {l : List UInt8} (hl : l.length = 32) (hg : w.heap[g]? = some (.cells (bvs l).toArray t (0, 0))) : (Instr.loadAt 29 (.pointer (some ⟨g, 0, none⟩))).run Tryd.prog w = .ok (.agg (bvs l).toArray) w := by
  have h := run_loadAt_mid (P := Tryd.prog) w g 0 29 (bvs l) _ (fun j v hv => by
    rw [Nat.zero_add, cell_of_row w g j _ _ _ hg]
    simpa using hv) Tryd.underlying29 rfl (by rw [bvs_length, hl]; kernel_rfl)
  exact h
set_option maxRecDepth 100000 in
set_option maxHeartbeats 1000000 in
theorem parts_long {w : World} {ao : Option Addr} {c : Nat} {L : List (Value × List UInt8)} (ht : Tables w S0 K0) (hL : 20 < L.length) :
    Calls Tryd.prog 5 #[.slice ao L.length c] w fun e w' => e = .returned (.bool true) ∧ Below w.heap.size w w' := by
  have hi : (20 : Int) < (L.length : Int) := by omega
  have HK := Lib.hid (known_any ht)
  clear ht
  go_enter Tryd.func5, Tryd.ntmps5
  go_wp2_with fail
  refine HK.out.mono ?_
  rintro e w0 ⟨rfl, hB0⟩
  go_wp2_with fail
  go_ret
  exact ⟨rfl, hB0⟩
set_option maxRecDepth 100000 in
set_option maxHeartbeats 2000000 in
theorem parts_short {w : World} {v : Value} {L : List (Value × List UInt8)} (h : Pt w v L) (ht : Tables w S0 K0) (hL : L.length ≤ 20) :
    Calls Tryd.prog 5 #[v] w fun e w' => e = .returned (.bool true) ∧ Below w.heap.size w w' := by
  obtain ⟨i0, hi0, hz0, hz1, hz2⟩ := info_parts Tryd.info5
  have hi : (L.length : Int) ≤ 20 := by omega
  have TL := ht.lt
  have HK := Lib.hid (known_any ht)
  obtain ⟨ao, c, rfl, hno, _⟩ := id h
  have HT := Lib.hid ht
  have HP := Lib.hid h
  clear ht h
  go_enter Tryd.func5, Tryd.ntmps5
  go_wp2_with fail
  refine HK.out.mono ?_
  rintro e w0 ⟨rfl, hB0⟩
  clear HK
  have HB0 := Lib.hid hB0
  clear hB0
  go_wp2_with fail
  go_loopw [3, 19] (fun va u wr => PaRel w L va u wr) (fun _ u _ => L.length - (intOf u).toNat)
  case atStart => exact ⟨0, rfl, Nat.zero_le _, World.ownsRow_nil _ _ _ _, Nat.le_refl _, fun j hj h0 => by omega, HB0.out⟩
  case round =>
    clear HB0
    obtain ⟨k, rfl, hk, hown, hlen, hsm, hBr⟩ := hrel
    by_cases hkl : k < L.length
    · obtain ⟨ad, rfl⟩ : ∃ ad, ao = some ad := by
        cases ao with
        | none => have := hno rfl; omega
        | some ad => exact ⟨ad, rfl⟩
      obtain ⟨ao', c', hv', _, hs'⟩ := HP.out
      obtain ⟨rfl, rfl⟩ : some ad = ao' ∧ c = c' := by simpa using hv'
      obtain ⟨p, hp⟩ : ∃ p, p = L[k] := ⟨_, rfl⟩
      obtain ⟨cell0, src0⟩ := hs' ad rfl k p (by rw [hp]; exact List.getElem?_eq_getElem hkl)
      have cell := cell_below hBr (Nat.le_refl _) cell0
      have src := src0.below hBr (Nat.le_refl _)
      have htk := bytesOf_take L k hkl
      rw [← hp] at htk
      have hpk : ∀ h : k < L.length, (L[k]).2 = p.2 := fun _ => by rw [hp]
      obtain ⟨v1, xs⟩ := p
      dsimp only at htk cell src hpk
      obtain ⟨a1, c1, rfl, hc1, hno1, hs1⟩ := id src
      have q0 : (0 : Int) ≤ (k : Int) := by omega
      have q1 : (k : Int) < (L.length : Int) := by omega
      have HTK := Lib.hid htk
      have HPK := Lib.hid hpk
      have S1 := Lib.hid (Bs.app src).1
      have HO := Lib.hid hown
      have HSM := Lib.hid hsm
      clear hs' hv' hp htk src hno1 hs1 src0 cell0 hpk hown hsm
      by_cases hx : 300 < xs.length
      · have hxi : (300 : Int) < (xs.length : Int) := by omega
        go_wp2_with fail
        go_ret
        exact ⟨rfl, hBr⟩
      · have hxi : ¬ (300 : Int) < (xs.length : Int) := by omega
        obtain ⟨al, hal⟩ : ∃ al, al = bytesOf (L.take k) := ⟨_, rfl⟩
        have HO' := HO.out
        rw [← hal] at HO' hlen
        have HO := Lib.hid HO'
        have HAL := Lib.hid hal
        have zr := hBr.size
        clear HO' hal
        go_wp2_with (at_builtin; refine wpList_append_own_src _ rfl (.tmp 26) (.tmp 27) 22 22 rfl w.heap.size 5 i0 (.int .u8 0) 1 1 Tryd.underlying22 hi0 hz0 hz1 hz2 rfl _ al.length (bvs al) rfl HO.out _ xs.length (bvs xs) rfl S1.out ?b1 ?b2 zr ?next)
        case b1 => unfold maxLen; omega
        case b2 => omega
        case next =>
          rintro v2 w4 ⟨hown1, hgrow, hat⟩
          have ee : bvs al ++ bvs xs = bvs (bytesOf (L.take (k + 1))) := by rw [HTK.out, HAL.out]; simp [bvs]
          have el : al.length + xs.length = (bytesOf (L.take (k + 1))).length := by rw [HTK.out, HAL.out, List.length_append]
          rw [ee, el] at hown1
          have hB4 : Below w.heap.size w w4 := hBr.grown hgrow zr (fun g e => (HO.out.lt g e).1)
          have HO4 := Lib.hid hown1
          have EL := Lib.hid el
          clear ee el hown1 hgrow hat HO S1
          go_wp2_with fail
          go_roundw
          case rel => exact ⟨k + 1, by go_num, by omega, HO4.out, by rw [← EL.out]; omega, fun j hj hjk => by
            by_cases e : j = k
            · subst e; rw [HPK.out hj]; omega
            · exact HSM.out j hj (by omega), hB4⟩
          case measure => simp [intOf]; omega
    · obtain rfl : k = L.length := by omega
      rw [List.take_length] at hown hlen
      obtain ⟨all, hall⟩ : ∃ all, all = bytesOf L := ⟨_, rfl⟩
      rw [← hall] at hown hlen
      obtain ⟨a3, c3, rfl⟩ := own_sl hown
      have bA := Bs.ofOwn hown
      have cvA := bA.str
      have zr := hBr.size
      have O := of_any (HP.out.below hBr (Nat.le_refl _)) (HT.out.below hBr (Nat.le_refl _)) (by rw [← hall]; omega) (by omega)
      rw [← hall] at O
      have HO := Lib.hid O
      have hxs : ∀ p ∈ L, p.2.length ≤ 9223372036854775807 := fun p hp => by
        obtain ⟨j, hj, rfl⟩ := List.mem_iff_getElem.1 hp
        have := hsm j hj hj
        omega
      have hsmall : ∀ p ∈ L, p.2.length ≤ 300 := fun p hp => by
        obtain ⟨j, hj, rfl⟩ := List.mem_iff_getElem.1 hp
        exact hsm j hj hj
      have SMALL := Lib.hid hsmall
      have HXS := Lib.hid hxs
      have HALL := Lib.hid hall
      have HOWN := Lib.hid hown
      clear hsm O hxs hall hown hsmall
      obtain ⟨wa, rfl⟩ : ∃ wa : World, wa = wr := ⟨_, rfl⟩
      go_wp2_with fail
      refine HO.out.mono ?_
      rintro e w5 ⟨rfl, B5⟩
      have hB5 := hBr.trans (B5.mono zr)
      have C := crc_any (HP.out.below hB5 (Nat.le_refl _)) (by omega) HXS.out
      rw [← HALL.out] at C
      have HC := Lib.hid C
      have hsl := shaL_length S0 K0 all
      obtain ⟨D, hD⟩ : ∃ D, D = shaL S0 K0 all := ⟨_, rfl⟩
      rw [← hD] at hsl ⊢
      have HD := Lib.hid hD
      clear C HO cvA hD
      go_wp2_with fail
      refine HC.out.mono ?_
      rintro e w' ⟨rfl, rfl⟩
      have nb : (w5.alloc (.cells #[.int .u8 0, .int .u8 0, .int .u8 0, .int .u8 0, .int .u8 0, .int .u8 0, .int .u8 0, .int .u8 0, .int .u8 0, .int .u8 0, .int .u8 0, .int .u8 0, .int .u8 0, .int .u8 0, .int .u8 0, .int .u8 0, .int .u8 0, .int .u8 0, .int .u8 0, .int .u8 0, .int .u8 0, .int .u8 0, .int .u8 0, .int .u8 0, .int .u8 0, .int .u8 0, .int .u8 0, .int .u8 0, .int .u8 0, .int .u8 0, .int .u8 0, .int .u8 0] 29)).heap[w5.heap.size]? = some (.cells Z32.toArray 29 (0, 0)) := by rw [Z32_eq]; exact heap_alloc_new w5 _
      have NB := Lib.hid nb
      have hol : (bvs D).toArray.size = 32 := by rw [List.size_toArray, bvs_length, hsl]
      have sz := Lib.hid (show (Tryd.prog.info? 29).map (·.size) = some (bvs D).toArray.size by rw [hol]; kernel_rfl)
      have so := Lib.hid (show Z32.toArray.size = (bvs D).toArray.size by rw [hol]; rfl)
      have s1 := Lib.hid (show (bvs D).toArray.all (·.oneCell') = true from all_oneCell_toArray (bvs_one _))
      have st := setRow_heap _ w5.heap.size _ (bvs D).toArray 29 (0, 0) nb
      have b8 := below_setRow ((Below.refl w5.heap.size w5).alloc (Nat.le_refl _) (.cells #[.int .u8 0, .int .u8 0, .int .u8 0, .int .u8 0, .int .u8 0, .int .u8 0, .int .u8 0, .int .u8 0, .int .u8 0, .int .u8 0, .int .u8 0, .int .u8 0, .int .u8 0, .int .u8 0, .int .u8 0, .int .u8 0, .int .u8 0, .int .u8 0, .int .u8 0, .int .u8 0, .int .u8 0, .int .u8 0, .int .u8 0, .int .u8 0, .int .u8 0, .int .u8 0, .int .u8 0, .int .u8 0, .int .u8 0, .int .u8 0, .int .u8 0, .int .u8 0] 29)) (Nat.le_refl w5.heap.size) (bvs D).toArray
      clear hol nb HC
      go_wp2_with (refine wpList_store_all rfl 29 (.tmp 7) (.tmp 33) rfl w5.heap.size 29 Z32.toArray (bvs D).toArray rfl rfl NB.out sz.out so.out s1.out ?_)
      generalize (w5.alloc (.cells #[.int .u8 0, .int .u8 0, .int .u8 0, .int .u8 0, .int .u8 0, .int .u8 0, .int .u8 0, .int .u8 0, .int .u8 0, .int .u8 0, .int .u8 0, .int .u8 0, .int .u8 0, .int .u8 0, .int .u8 0, .int .u8 0, .int .u8 0, .int .u8 0, .int .u8 0, .int .u8 0, .int .u8 0, .int .u8 0, .int .u8 0, .int .u8 0, .int .u8 0, .int .u8 0, .int .u8 0, .int .u8 0, .int .u8 0, .int .u8 0, .int .u8 0, .int .u8 0] 29)).setRow w5.heap.size (bvs D).toArray = w8 at *
      have B58 := Lib.hid b8
      have ST := Lib.hid st
      have HB5 := Lib.hid hB5
      have R35 := Lib.hid B5
      clear sz so s1 NB b8 st B5 hB5
      go_loopw [9, 38] (fun va u wr' => PbRel w w8 L va u wr') (fun _ u _ => L.length - (intOf u).toNat)
      case atStart => exact ⟨0, rfl, Nat.zero_le _, World.ownsRow_nil _ _ _ _, Nat.le_refl _, Below.refl _ _⟩
      case round =>
        obtain ⟨k, rfl, hk, hown, hlen2, hBr2⟩ := hrel
        have hB8 : Below w.heap.size w w8 := HB5.out.trans (B58.out.mono HB5.out.size)
        have hBw := hB8.trans (hBr2.mono hB8.size)
        by_cases hkl : k < L.length
        · obtain ⟨ad, rfl⟩ : ∃ ad, ao = some ad := by
            cases ao with
            | none => have := hno rfl; omega
            | some ad => exact ⟨ad, rfl⟩
          obtain ⟨ao', c', hv', _, hs'⟩ := HP.out
          obtain ⟨rfl, rfl⟩ : some ad = ao' ∧ c = c' := by simpa using hv'
          obtain ⟨p, hp⟩ : ∃ p, p = L[k] := ⟨_, rfl⟩
          obtain ⟨cell0, src0⟩ := hs' ad rfl k p (by rw [hp]; exact List.getElem?_eq_getElem hkl)
          have cell := cell_below hBw (Nat.le_refl _) cell0
          have src := src0.below hBw (Nat.le_refl _)
          have htk := bytesOf_take L k hkl
          rw [← hp] at htk
          have hxk : p.2.length ≤ 300 := by
            have h1 : (bytesOf (L.take (k + 1))).length ≤ (bytesOf L).length := by
              have : bytesOf L = bytesOf (L.take (k + 1)) ++ bytesOf (L.drop (k + 1)) := by
                unfold bytesOf
                rw [← List.flatten_append, ← List.map_append, List.take_append_drop]
              rw [this, List.length_append]; omega
            exact SMALL.out p (by rw [hp]; exact List.getElem_mem _)
          obtain ⟨v1, xs⟩ := p
          dsimp only at htk cell src hxk
          obtain ⟨a1, c1, rfl, hc1, hno1, hs1⟩ := id src
          have q0 : (0 : Int) ≤ (k : Int) := by omega
          have q1 : (k : Int) < (L.length : Int) := by omega
          have HTK := Lib.hid htk
          have S1 := Lib.hid (Bs.app src).1
          obtain ⟨al, hal⟩ : ∃ al, al = bytesOf (L.take k) := ⟨_, rfl⟩
          rw [← hal] at hown hlen2
          have HO := Lib.hid hown
          have HAL := Lib.hid hal
          have zr2 := hBr2.size
          clear hs' hv' hp htk src hno1 hs1 src0 cell0 hown hal
          go_wp2_with (at_builtin; refine wpList_append_own_src _ rfl (.tmp 42) (.tmp 43) 22 22 rfl w8.heap.size 5 i0 (.int .u8 0) 1 1 Tryd.underlying22 hi0 hz0 hz1 hz2 rfl _ al.length (bvs al) rfl HO.out _ xs.length (bvs xs) rfl S1.out ?b1 ?b2 zr2 ?next)
          case b1 => unfold maxLen; omega
          case b2 => omega
          case next =>
            rintro v2 w4 ⟨hown1, hgrow, hat⟩
            have ee : bvs al ++ bvs xs = bvs (bytesOf (L.take (k + 1))) := by rw [HTK.out, HAL.out]; simp [bvs]
            have el : al.length + xs.length = (bytesOf (L.take (k + 1))).length := by rw [HTK.out, HAL.out, List.length_append]
            rw [ee, el] at hown1
            have hB4 : Below w8.heap.size w8 w4 := hBr2.grown hgrow zr2 (fun g e => (HO.out.lt g e).1)
            have HO4 := Lib.hid hown1
            have EL := Lib.hid el
            clear ee el hown1 hgrow hat HO S1
            go_wp2_with fail
            go_roundw
            case rel => exact ⟨k + 1, by go_num, by omega, HO4.out, by rw [← EL.out]; omega, hB4⟩
            case measure => simp [intOf]; omega
        · obtain rfl : k = L.length := by omega
          rw [List.take_length, ← HALL.out] at hown
          obtain ⟨a9, c9, rfl⟩ := own_sl hown
          have r0 : Below wr.heap.size wr wr := Below.refl _ _
          have bN := Bs.ofOwn hown
          have b3 : Bs wr (.slice a3 all.length c3) all := by
            have h5 := Bs.ofOwn HOWN.out
            exact (h5.below (R35.out.trans (B58.out.mono R35.out.size)) (Nat.le_refl _)).below hBr2 (Nat.le_refl _)
          have z8 : w5.heap.size < w8.heap.size := (Array.getElem?_eq_some_iff.1 ST.out).1
          have st2 := (hBr2.block _ z8).trans ST.out
          have zr2 := hBr2.size
          have ofC : ∀ W g, Below wr.heap.size wr W → W.heap[g]? = some (.cells #[.slice a3 all.length c3] 22 (0, 0)) → Calls Tryd.prog 18 #[.slice (some ⟨g, 0, none⟩) 1 1] W fun e w' => e = .returned (.agg (bvs D).toArray) ∧ Below wr.heap.size wr w' := by
            intro W g hW hg
            have o := of_any (Pt.one hg (b3.below hW (Nat.le_refl _))) (HT.out.below (hBw.trans (hW.mono hBw.size)) (Nat.le_refl _)) (by simp [bytesOf]; omega) (by simp)
            rw [show bytesOf [(Value.slice a3 all.length c3, all)] = all by simp [bytesOf], ← HD.out] at o
            exact o.mono fun _ _ h' => ⟨h'.1, hW.trans (h'.2.mono hW.size)⟩
          have crcC : ∀ W g, Below wr.heap.size wr W → W.heap[g]? = some (.cells #[.slice a3 all.length c3] 22 (0, 0)) → Calls Tryd.prog 16 #[.slice (some ⟨g, 0, none⟩) 1 1] W fun e w' => e = .returned (.int .u32 ((crcOf all : Nat) : Int)) ∧ W = w' := by
            intro W g hW hg
            have o := crc_any (Pt.one hg (b3.below hW (Nat.le_refl _))) (by simp) (by simp; omega)
            rwa [show bytesOf [(Value.slice a3 all.length c3, all)] = all by simp [bytesOf]] at o
          have kp : ∀ W, Below wr.heap.size wr W → Below wr.heap.size wr W ∧ W.rangeAt w5.heap.size 0 (bvs D) ∧ (convert 22 9 (.slice a9 all.length c9)).run Tryd.prog W = .ok (.string (str all)) W := fun W hW =>
            ⟨hW, fun j v hv => by rw [Nat.zero_add, cell_of_row W _ j _ _ _ ((hW.block _ (by omega)).trans st2)]; simpa using hv, (bN.below hW (Nat.le_refl _)).str⟩
          have eqD : ∀ W, (binOp .eql 29 (.agg (bvs D).toArray) (.agg (bvs D).toArray)).run Tryd.prog W = .ok (.bool true) W := fun W => by
            rw [eql_sum _ _ hsl hsl]; simp
          have OFC := Lib.hid ofC
          have CRCC := Lib.hid crcC
          have KP := Lib.hid kp
          have R0 := Lib.hid r0
          have R1 := Lib.hid (fun o => (r0.alloc (Nat.le_refl _) o).drew)
          have B1 := Lib.hid (fun o => heap_alloc_new wr o)
          have HBW := Lib.hid hBw
          generalize crcOf all = q at *
          clear ofC crcC kp r0 hBw hB8 bN b3 st2 hown hBr2
          have hu := Tryd.underlying29
          have hsi : (Tryd.prog.info? 29).map (·.size) = some (bvs D).length := by rw [bvs_length, hsl]; kernel_rfl
          have hsz : (bvs D).length = 32 := by rw [bvs_length, hsl]
          have hone : ∀ v ∈ bvs D, v.oneCell' = true := bvs_one D
          go_wp2_with fail
          go_region_held3 (fun w' => Below wr.heap.size wr w' ∧ w'.rangeAt w5.heap.size 0 (bvs D) ∧ (convert 22 9 (.slice a9 all.length c9)).run Tryd.prog w' = .ok (.string (str all)) w') (first | exact KP.out _ R0.out.drew | exact KP.out _ (R1.out _) | exact KP.out _ hb10 | exact KP.out _ (hb10.alloc hb10.size _)) (first
            | (go_at_call 18; (with_reducible refine (OFC.out _ _ (R1.out _) (B1.out _)).mono ?_); rintro e w10 ⟨rfl, hb10⟩)
            | (go_at_call 16; (with_reducible refine (CRCC.out _ _ (hb10.alloc hb10.size _) (heap_alloc_new w10 _)).mono ?_); rintro e w' ⟨rfl, rfl⟩))
          all_goals
            go_wp2_with fail
            go_ret
            exact ⟨rfl, HBW.out.trans ((hb10.alloc hb10.size _).mono HBW.out.size)⟩
theorem parts_any {w : World} {v : Value} {L : List (Value × List UInt8)} (h : Pt w v L) (ht : Tables w S0 K0) :
    Calls Tryd.prog 5 #[v] w fun e w' => e = .returned (.bool true) ∧ Below w.heap.size w w' := by
  by_cases hL : 20 < L.length
  · obtain ⟨ao, c, rfl, _⟩ := h
    exact parts_long ht hL
  · exact parts_short h ht (by omega)
end Go.Proofs.YtejbookaflnpeaaDoor
