/- The reference's CRC: a division of polynomials: its walk. -/
import Derived.Test.YtejbookaflnpeaaDoorDa
import Derived.Test.YtejbookaflnpeaaDoorDv
import Derived.Test.YtejbookaflnpeaaDoorDb
namespace Go.Proofs.YtejbookaflnpeaaDoor
open Go Go.RowKit
set_option linter.unusedVariables false

def bls (L : List Bool) : List Value := L.map Value.bool
theorem bls_length (L : List Bool) : (bls L).length = L.length := by simp [bls]
theorem bls_one (L : List Bool) : ∀ v ∈ bls L, v.oneCell' = true := by
  intro v hv
  obtain ⟨_, _, rfl⟩ := List.mem_map.1 hv
  rfl
theorem Tryd.infoBool : (Tryd.prog.info? 4).map (fun i => (i.zero, i.size, i.bytes)) = some (some (.bool false), 1, 1) := by kernel_rfl
/-- One new cell as a source for an append. -/
theorem src_one {tx e : TypeId} (hk : Tryd.prog.underlying tx = some (.slice e)) (w : World) (v : Value) (h1 : v.oneCell' = true) : Go.Src Tryd.prog 1 tx (.slice (some ⟨w.heap.size, 0, none⟩) 1 1) 1 [v] (w.alloc (.cells #[v] e)) :=
  Src.any _ (e' := e) hk _ 1 1 [v] rfl (fun h => by cases h) (fun a ha j u hu => by
    cases ha
    match j, hu with
    | 0, hu =>
      obtain rfl : v = u := by simpa using hu
      rw [Addr.add_mid, Nat.zero_add, cell_of_row _ _ 0 _ _ _ (heap_alloc_new w _)]; rfl
    | j + 1, hu => simp at hu) (fun u hu => by
    obtain rfl : u = v := by simpa using hu
    exact h1)
theorem bitsL_take (l : List UInt8) (k : Nat) (h : k < l.length) : bitsL (l.take (k + 1)) = bitsL (l.take k) ++ byteBits l[k] := by
  rw [List.take_succ_eq_append_getElem h]
  unfold bitsL
  rw [List.flatMap_append]
  simp
theorem byteBits_take (x : UInt8) (j : Nat) (h : j < 8) : (byteBits x).take (j + 1) = (byteBits x).take j ++ [x.toNat.testBit j] := by
  have hl : (byteBits x).length = 8 := by simp [byteBits]
  rw [List.take_succ_eq_append_getElem (by omega)]
  simp [byteBits]
theorem size_list (s : ByteArray) : s.data.toList.length = s.size := rfl
/-- The bits so far are the call's own. -/
def BO (wr : World) (B : Nat) (v : Value) (L : List Bool) : Prop := wr.ownsRow B 4 1 v L.length (bls L)
theorem BO_at {wr : World} {B : Nat} {ao : Option Addr} {n c : Nat} {L : List Bool} (h : BO wr B (.slice ao n c) L) {k : Nat} (hk : k < L.length) :
    ∃ g, ao = some ⟨g, 0, none⟩ ∧ n = L.length ∧ B ≤ g ∧ wr.cell? ⟨g, k, none⟩ = some (.bool (L.getD k false)) ∧ wr.frozen? ⟨g, k, none⟩ = false ∧ ∀ b, BO (wr.setCell ⟨g, k, none⟩ (.bool b)) B (.slice ao n c) (L.set k b) := by
  unfold BO at h
  have h' := h
  rcases h.2 with ⟨e, e0⟩ | ⟨g, cap, cur, e, hb, _⟩
  · omega
  · injection e with e1 e2 e3
    subst e1 e2 e3
    refine ⟨g, rfl, rfl, hb, ?_, h'.frozenAt k, fun b => ?_⟩
    · rw [h'.cellAt k (by omega)]
      simp [bls, List.getD, hk]
    · have := (h'.stored k (.bool b)).1
      unfold BO
      rw [List.length_set]
      simpa [bls, List.map_set] using this
theorem BO_own {wr wr' : World} {B : Nat} {v : Value} {L : List Bool} (h : BO wr B v L) (hk : ∀ g, v.ownBlock = some g → wr'.heap[g]? = wr.heap[g]?) : BO wr' B v L := own_keep h hk
/-- The 14 powers lie in a block of their own. -/
def pwc : List Value := powers.map fun (p : Nat) => Value.int .i64 (p : Int)
theorem pw_get (j : Nat) (h : j < 14) : pwc[j]? = some (.int .i64 ((powers.getD j 0 : Nat) : Int)) ∧ powers.getD j 0 ≤ 26 := by
  have hd : ∀ a : Fin 14, powers.getD a 0 ≤ 26 := by decide
  have hl : j < powers.length := h
  exact ⟨by simp [pwc, List.getD, hl], hd ⟨j, h⟩⟩
theorem tailNum_lt (L : List Bool) : ∀ j, tailNum L j < 2 ^ j
  | 0 => by simp [tailNum]
  | j + 1 => by
    have := tailNum_lt L j
    rw [tailNum, Nat.pow_succ]
    split <;> omega
theorem val_i64 {a b : Int} (h : a = b) : Value.int .i64 a = Value.int .i64 b := by rw [h]
theorem val_u32n {a : Int} {b : Nat} (h : a = (b : Int)) : Value.int .u32 a = Value.int .u32 (b : Int) := by rw [h]
def RpRel (w : World) (L : List Bool) (v u : Value) (wr : World) : Prop :=
  ∃ j : Nat, u = .int .i64 (j : Int) ∧ j ≤ 32 ∧ BO wr w.heap.size v (L ++ List.replicate j false) ∧ Below w.heap.size w wr
def RnRel (w : World) (v : Value) (L : List Bool) (u : Value) (wr : World) : Prop :=
  ∃ j : Nat, u = .int .i64 (j : Int) ∧ j ≤ 32 ∧ BO wr w.heap.size v (nots L j) ∧ Below w.heap.size w wr
def RdRel (w : World) (v : Value) (gp : Nat) (L : List Bool) (n : Nat) (u : Value) (wr : World) : Prop :=
  ∃ k : Nat, u = .int .i64 (k : Int) ∧ k ≤ n ∧ BO wr w.heap.size v (divs L k) ∧ wr.heap[gp]? = some (.cells pwc.toArray 3 (0, 0)) ∧ Below w.heap.size w wr
def RfRel (w : World) (v : Value) (gp : Nat) (L : List Bool) (k : Nat) (u : Value) (wr : World) : Prop :=
  ∃ j : Nat, u = .int .i64 (j : Int) ∧ j ≤ 14 ∧ BO wr w.heap.size v (flips L k j) ∧ wr.heap[gp]? = some (.cells pwc.toArray 3 (0, 0)) ∧ Below w.heap.size w wr
def RtRel (w : World) (L : List Bool) (wr0 : World) (c u : Value) (wr : World) : Prop :=
  ∃ j : Nat, u = .int .i64 ((L.length : Int) - 1 - (j : Int)) ∧ j ≤ 32 ∧ c = .int .u32 ((tailNum L j : Nat) : Int) ∧ wr = wr0
def RoRel (w : World) (s : ByteArray) (v u : Value) (wr : World) : Prop :=
  ∃ k : Nat, u = .int .i64 (k : Int) ∧ k ≤ s.size ∧ BO wr w.heap.size v (bitsL (s.data.toList.take k)) ∧ Below w.heap.size w wr
def RiRel (w : World) (L : List Bool) (x : UInt8) (v vx u : Value) (wr : World) : Prop :=
  ∃ j : Nat, u = .int .i64 (j : Int) ∧ j ≤ 8 ∧ vx = .int .u8 ((x.toNat / 2 ^ j : Nat) : Int) ∧ BO wr w.heap.size v (L ++ (byteBits x).take j) ∧ Below w.heap.size w wr
set_option maxRecDepth 100000 in
set_option maxHeartbeats 2000000 in
theorem refCRC_any (w : World) (s : ByteArray) (hs : s.size ≤ 100000) : Calls Tryd.prog 17 #[.string s] w fun e w' => e = .returned (.int .u32 ((crcRef s.data.toList : Nat) : Int)) ∧ Below w.heap.size w w' := by
  obtain ⟨i0, hi0, hz0, hz1, hz2⟩ := info_parts Tryd.infoBool
  go_enter Tryd.func17, Tryd.ntmps17
  go_wp2
  go_loopw [3, 4] (fun v u wr => RoRel w s v u wr) (fun _ u _ => s.size - (intOf u).toNat)
  case atStart => exact ⟨0, rfl, Nat.zero_le _, World.ownsRow_nil _ _ _ _, Below.refl _ _⟩
  case round =>
    obtain ⟨wo, rfl⟩ : ∃ wo : World, wo = wr := ⟨_, rfl⟩
    obtain ⟨k, rfl, hk, hown, hBo⟩ := hrel
    by_cases hkl : k < s.size
    · have hg : (s.data.toList)[k]'(by rw [size_list]; exact hkl) = s[k] := rfl
      have hbt := bitsL_take s.data.toList k (by rw [size_list]; exact hkl)
      rw [hg] at hbt
      have hl8 := bitsL_length (s.data.toList.take k)
      have hlk : (s.data.toList.take k).length = k := by rw [List.length_take, size_list]; omega
      rw [hlk] at hl8
      have HL8 := Lib.hid hl8
      have HB := Lib.hid hbt
      generalize bitsL (s.data.toList.take k) = L0 at *
      have HO := Lib.hid hown
      have HBo := Lib.hid hBo
      clear hbt hown hg hl8 hlk hBo
      go_wp2_with fail
      have HX := HB.out
      clear HB
      generalize s[k] = x at *
      have HB := Lib.hid HX
      clear HX
      have hx := x.toNat_lt
      go_loopw [3, 5, 6] (fun v vx u wr => RiRel w L0 x v vx u wr) (fun _ _ u _ => 8 - (intOf u).toNat)
      case atStart => exact ⟨0, rfl, Nat.zero_le _, by simp, by simpa using HO.out, HBo.out⟩
      case round =>
        clear HO HBo
        obtain ⟨j, rfl, hj, rfl, hown, hBr⟩ := hrel
        by_cases hjl : j < 8
        · have hbt := byteBits_take x j hjl
          obtain ⟨y, hy⟩ : ∃ y, y = x.toNat / 2 ^ j := ⟨_, rfl⟩
          have hy2 : x.toNat / 2 ^ (j + 1) = y / 2 := by rw [hy, Nat.pow_succ, Nat.div_div_eq_div_mul]
          have hyl : y < 256 := by rw [hy]; exact Nat.lt_of_le_of_lt (Nat.div_le_self _ _) hx
          obtain ⟨b, hb⟩ : ∃ b, b = x.toNat.testBit j := ⟨_, rfl⟩
          have hb2 : decide (y % 2 = 1) = b := by rw [hb, hy, Nat.testBit_eq_decide_div_mod_eq]
          have hb3 : decide ((y : Int) % 2 = 1) = b := by rw [← hb2]; congr 1; rw [eq_iff_iff]; omega
          have hb4 : ((y : Int) % 2 == 1) = b := by rw [← hb3]; rfl
          rw [← hy]
          rw [← hb] at hbt
          have hll : (L0 ++ (byteBits x).take j).length = 8 * k + j := by
            have : ((byteBits x).take j).length = j := by rw [List.length_take]; simp [byteBits]; omega
            rw [List.length_append, HL8.out, this]
          have hnext : ∀ v' w', Grew (wr.alloc (.cells #[.bool b] 4)) w' w.heap.size 4 1 u3 v' (8 * k + j + 1) (bls (L0 ++ (byteBits x).take j) ++ [.bool b]) → BO w' w.heap.size v' (L0 ++ (byteBits x).take (j + 1)) ∧ Below w.heap.size w w' := by
            rintro v' w' ⟨h1, h2, h3⟩
            have ho := hown.lt
            constructor
            · unfold BO
              rw [hbt, ← List.append_assoc, List.length_append, hll]
              simpa [bls] using h1
            · exact (hBr.alloc hBr.size _).grown h2 (by have := hBr.size; simp; omega) (fun g e => (ho g e).1)
          have HN := Lib.hid hnext
          have HOJ := Lib.hid (show wr.ownsRow w.heap.size 4 1 u3 (8 * k + j) (bls (L0 ++ (byteBits x).take j)) by
            have := hown
            unfold BO at this
            rwa [hll] at this)
          have zr := hBr.size
          have HY2 := Lib.hid hy2
          clear hbt hy hb hb2 hll hnext hown hy2
          go_wp2_with (at_builtin; refine wpList_append_own_src _ rfl (.tmp 27) (.tmp 31) 78 78 rfl w.heap.size 4 i0 (.bool false) 1 1 Tryd.underlying78 hi0 hz0 hz1 hz2 rfl _ (8 * k + j) (bls (L0 ++ (byteBits x).take j)) rfl (HOJ.out.alloc _) _ 1 [.bool b] rfl (src_one Tryd.underlying78 wr (.bool b) rfl) ?b1 ?b2 (by simp; omega) ?next)
          case b1 => unfold maxLen; omega
          case b2 => omega
          case next =>
            intro v' w' hG
            obtain ⟨n1, n2⟩ := HN.out v' w' hG
            clear HN HOJ hG hb3 hb4
            have hyI : (y : Int) < 256 := by omega
            go_wp2_with fail
            go_roundw
            case rel => exact ⟨j + 1, by go_num, by omega, by rw [HY2.out]; simp, n1, n2⟩
            case measure => simp [intOf]; omega
        · obtain rfl : j = 8 := by omega
          have hbt : (byteBits x).take 8 = byteBits x := List.take_of_length_le (by simp [byteBits])
          rw [hbt, ← HB.out] at hown
          clear hbt
          go_wp2_with fail
          go_roundw
          case rel => exact ⟨k + 1, by go_num, by omega, hown, hBr⟩
          case measure => simp [intOf]; omega
    · obtain rfl : k = s.size := by omega
      have htk : s.data.toList.take s.size = s.data.toList := List.take_of_length_le (by rw [size_list]; omega)
      rw [htk] at hown
      have hbl := bitsL_length s.data.toList
      rw [size_list] at hbl
      have hcr : crcRef s.data.toList = tailNum (divs (nots (bitsL s.data.toList ++ List.replicate 32 false) 32) (8 * s.size)) 32 := rfl
      have HCR := Lib.hid hcr
      clear hcr htk hkl
      generalize bitsL s.data.toList = L0 at *
      have HO := Lib.hid hown
      have HBo := Lib.hid hBo
      have HBL := Lib.hid hbl
      clear hown hBo hbl
      go_wp2_with fail
      go_loopw [3, 7] (fun v u wr => RpRel w L0 v u wr) (fun _ u _ => 32 - (intOf u).toNat)
      case atStart => exact ⟨0, rfl, Nat.zero_le _, by simpa using HO.out, HBo.out⟩
      case round =>
        clear HO HBo
        obtain ⟨j, rfl, hj, hown, hBr⟩ := hrel
        by_cases hjl : j < 32
        · have hll : (L0 ++ List.replicate j false).length = 8 * s.size + j := by rw [List.length_append, HBL.out, List.length_replicate]
          have hnext : ∀ v' w', Grew (wr.alloc (.cells #[.bool false] 4)) w' w.heap.size 4 1 u3 v' (8 * s.size + j + 1) (bls (L0 ++ List.replicate j false) ++ [.bool false]) → BO w' w.heap.size v' (L0 ++ List.replicate (j + 1) false) ∧ Below w.heap.size w w' := by
            rintro v' w' ⟨h1, h2, h3⟩
            have ho := hown.lt
            constructor
            · unfold BO
              rw [List.replicate_succ', ← List.append_assoc, List.length_append, hll]
              simpa [bls] using h1
            · exact (hBr.alloc hBr.size _).grown h2 (by have := hBr.size; simp; omega) (fun g e => (ho g e).1)
          have HN := Lib.hid hnext
          have HOJ := Lib.hid (show wr.ownsRow w.heap.size 4 1 u3 (8 * s.size + j) (bls (L0 ++ List.replicate j false)) by
            have := hown
            unfold BO at this
            rwa [hll] at this)
          have zr := hBr.size
          clear hll hnext hown
          go_wp2_with (at_builtin; refine wpList_append_own_src _ rfl (.tmp 39) (.tmp 40) 78 78 rfl w.heap.size 4 i0 (.bool false) 1 1 Tryd.underlying78 hi0 hz0 hz1 hz2 rfl _ (8 * s.size + j) (bls (L0 ++ List.replicate j false)) rfl (HOJ.out.alloc _) _ 1 [.bool false] rfl (src_one Tryd.underlying78 wr (.bool false) rfl) ?b1 ?b2 (by simp; omega) ?next)
          case b1 => unfold maxLen; omega
          case b2 => omega
          case next =>
            intro v' w' hG
            obtain ⟨n1, n2⟩ := HN.out v' w' hG
            clear HN HOJ hG
            go_wp2_with fail
            go_roundw
            case rel => exact ⟨j + 1, by go_num, by omega, n1, n2⟩
            case measure => simp [intOf]; omega
        · obtain rfl : j = 32 := by omega
          have hLl : (L0 ++ List.replicate 32 false).length = 8 * s.size + 32 := by rw [List.length_append, HBL.out, List.length_replicate]
          have HCR' := HCR.out
          generalize L0 ++ List.replicate 32 false = L1 at *
          have HCR2 := Lib.hid HCR'
          obtain ⟨ao, c, rfl⟩ := own_sl (show wr.ownsRow w.heap.size 4 1 u3 L1.length (bls L1) from hown)
          have HO := Lib.hid hown
          have HBo := Lib.hid hBr
          have HLl := Lib.hid hLl
          clear hown hBr HCR' HCR hLl hjl
          go_wp2_with fail
          go_loopw [8] (fun u wr => RnRel w (.slice ao L1.length c) L1 u wr) (fun u _ => 32 - (intOf u).toNat)
          case atStart => exact ⟨0, rfl, Nat.zero_le _, HO.out, HBo.out⟩
          case round =>
            clear HO HBo
            obtain ⟨j, rfl, hj, hown, hBr⟩ := hrel
            by_cases hjl : j < 32
            · have hll := nots_length L1 j
              obtain ⟨g, rfl, _, hgB, cell, fr, st⟩ := BO_at hown (k := j) (by rw [hll, HLl.out]; omega)
              have st2 := st (!(nots L1 j).getD j false)
              have HST := Lib.hid (show BO _ w.heap.size (.slice (some ⟨g, 0, none⟩) L1.length c) (nots L1 (j + 1)) from st2)
              generalize (nots L1 j).getD j false = b at *
              have q0 : (0 : Int) ≤ (j : Int) := by omega
              have q1 : (j : Int) < (L1.length : Int) := by have := HLl.out; omega
              clear st st2 hown hll
              go_wp2_with fail
              go_roundw
              case rel => exact ⟨j + 1, by go_num, by omega, HST.out, hBr.setCell hgB _⟩
              case measure => simp [intOf]; omega
            · obtain rfl : j = 32 := by omega
              have hgp : (wr.alloc (.cells #[.int .i64 26, .int .i64 23, .int .i64 22, .int .i64 16, .int .i64 12, .int .i64 11, .int .i64 10, .int .i64 8, .int .i64 7, .int .i64 5, .int .i64 4, .int .i64 2, .int .i64 1, .int .i64 0] 3)).heap[wr.heap.size]? = some (.cells pwc.toArray 3 (0, 0)) := heap_alloc_new wr _
              have hown2 : BO (wr.alloc (.cells #[.int .i64 26, .int .i64 23, .int .i64 22, .int .i64 16, .int .i64 12, .int .i64 11, .int .i64 10, .int .i64 8, .int .i64 7, .int .i64 5, .int .i64 4, .int .i64 2, .int .i64 1, .int .i64 0] 3)) w.heap.size (.slice ao L1.length c) (nots L1 32) := BO_own hown (fun g hg => Below.heap_alloc _ _ _ (hown.lt g hg).2)
              have hB2 := hBr.alloc hBr.size (.cells #[.int .i64 26, .int .i64 23, .int .i64 22, .int .i64 16, .int .i64 12, .int .i64 11, .int .i64 10, .int .i64 8, .int .i64 7, .int .i64 5, .int .i64 4, .int .i64 2, .int .i64 1, .int .i64 0] 3)
              have hne : ∀ g, (Value.slice ao L1.length c).ownBlock = some g → g < wr.heap.size := fun g hg => (hown.lt g hg).2
              have zr := hBr.size
              have hll := nots_length L1 32
              have HCR3 := HCR2.out
              generalize nots L1 32 = L2 at *
              have HCR4 := Lib.hid HCR3
              have HO := Lib.hid hown2
              have HG := Lib.hid hgp
              have HBo := Lib.hid hB2
              have HNE := Lib.hid hne
              have HLL := Lib.hid hll
              clear hown hown2 hB2 hBr hgp hne hll HCR3 HCR2 hjl
              go_wp2_with fail
              generalize wr.heap.size = gp at *
              go_loopw [10] (fun u wr' => RdRel w (.slice ao L1.length c) gp L2 (8 * s.size) u wr') (fun u _ => 8 * s.size - (intOf u).toNat)
              case atStart => exact ⟨0, rfl, Nat.zero_le _, HO.out, HG.out, HBo.out⟩
              case round =>
                clear HO HG HBo
                obtain ⟨k, rfl, hk, hown, hgp, hBr⟩ := hrel
                have hlen := HLl.out
                by_cases hkl : k < 8 * s.size
                · have t1 : (k : Int) + 32 < (L1.length : Int) := by omega
                  have hll := divs_length L2 k
                  have hstep : divs L2 (k + 1) = divStep (divs L2 k) k := rfl
                  unfold divStep at hstep
                  rw [HLL.out] at hll
                  have HST := Lib.hid hstep
                  clear hstep
                  obtain ⟨L4, hL4⟩ : ∃ L4, L4 = divs L2 (k + 1) := ⟨_, rfl⟩
                  have HST' := HST.out
                  rw [← hL4] at HST'
                  have HST := Lib.hid HST'
                  have HL4 := Lib.hid hL4
                  clear HST' hL4
                  generalize divs L2 k = L3 at *
                  obtain ⟨g, rfl, _, hgB, cell, fr, st⟩ := BO_at hown (k := k) (by omega)
                  have hgne : g ≠ gp := by have := HNE.out g rfl; omega
                  have q0 : (0 : Int) ≤ (k : Int) := by omega
                  have q1 : (k : Int) < (L1.length : Int) := by omega
                  cases hb : L3.getD k false with
                  | false =>
                    rw [hb] at cell
                    have e4 : L4 = L3 := by have := HST.out; rw [hb] at this; simpa using this
                    have HE := Lib.hid e4
                    have HOW := Lib.hid hown
                    have HGP := Lib.hid hgp
                    have HLL3 := Lib.hid hll
                    have HLEN := Lib.hid hlen
                    clear HST e4 hb hown hgp st hll hlen
                    go_wp2_with fail
                    go_roundw
                    case rel => exact ⟨k + 1, by go_num, by omega, by rw [← HL4.out, HE.out]; exact HOW.out, HGP.out, hBr⟩
                    case measure => simp [intOf]; omega
                  | true =>
                    rw [hb] at cell
                    have e4 : L4 = flips (L3.set k false) k 14 := by have := HST.out; rw [hb] at this; simpa using this
                    have HE := Lib.hid e4
                    have HOW := Lib.hid (st false)
                    have HGP := Lib.hid ((heap_setCell_other wr ⟨g, k, none⟩ gp (.bool false) (by simp; omega)).trans hgp)
                    have HB4 := Lib.hid (hBr.setCell (p := ⟨g, k, none⟩) hgB (.bool false))
                    have hl3 : (L3.set k false).length = L1.length := by rw [List.length_set]; exact hll
                    generalize L3.set k false = L5 at *
                    clear HST e4 hb hown hgp st hll hlen
                    have HL3 := Lib.hid hl3
                    go_wp2_with fail
                    go_loopw [11] (fun u wr'' => RfRel w (.slice (some ⟨g, 0, none⟩) L1.length c) gp L5 k u wr'') (fun u _ => 14 - (intOf u).toNat)
                    case atStart => exact ⟨0, rfl, Nat.zero_le _, HOW.out, HGP.out, HB4.out⟩
                    case round =>
                      clear HOW HGP HB4 cell fr
                      obtain ⟨j, rfl, hj, hown, hgp, hBr⟩ := hrel
                      by_cases hjl : j < 14
                      · obtain ⟨pc, pl⟩ := pw_get j hjl
                        have hfl : flips L5 k (j + 1) = flipAt (flips L5 k j) (k + 32 - powers.getD j 0) := rfl
                        unfold flipAt at hfl
                        have hll := flips_length L5 k j
                        have pcell : wr.cell? ⟨gp, j, none⟩ = some (.int .i64 ((powers.getD j 0 : Nat) : Int)) := by
                          rw [cell_of_row wr gp j _ _ _ hgp]
                          simpa using pc
                        obtain ⟨p, hp⟩ : ∃ p, p = powers.getD j 0 := ⟨_, rfl⟩
                        rw [← hp] at hfl pl pcell
                        obtain ⟨m, hm⟩ : ∃ m, m = k + 32 - p := ⟨_, rfl⟩
                        rw [← hm] at hfl
                        have hL1 := HLL.out
                        have hlen := HL3.out
                        have hml : m < L1.length := by have := t1; omega
                        obtain ⟨g', hgg, _, _, cell, fr, st⟩ := BO_at hown (k := m) (by omega)
                        obtain rfl : g = g' := by simpa using hgg
                        have st2 := st (!(flips L5 k j).getD m false)
                        rw [← hfl] at st2
                        have HS2 := Lib.hid st2
                        have HGP := Lib.hid ((heap_setCell_other (wr.drewN 0) ⟨g, m, none⟩ gp (.bool (!(flips L5 k j).getD m false)) (by simp; omega)).trans hgp)
                        generalize (flips L5 k j).getD m false = b at *
                        have HG2 := Lib.hid hgp
                        have i1 : (k : Int) + 32 - (p : Int) = (m : Int) := by omega
                        have v1 : IntKind.i64.wrap ((k : Int) + 32) = (k : Int) + 32 := IntWalk.i64_in _ (by omega)
                        have v2 : IntKind.i64.wrap ((k : Int) + 32 - (p : Int)) = (m : Int) := by rw [i1]; exact IntWalk.i64_in _ (by omega)
                        have j0 : (0 : Int) ≤ (j : Int) := by omega
                        have j1 : (j : Int) < 14 := by omega
                        have m0 : (0 : Int) ≤ (m : Int) := by omega
                        have m1 : (m : Int) < (L1.length : Int) := by omega
                        clear hfl pc hp hm hown hgp st st2 hll hgg hL1 hlen t1
                        go_wp2_with fail
                        (refine wp_region_quiet_tail 20 (by kernel_rfl) (by kernel_rfl) ?_; simp only [List.take_succ_cons, List.take_zero, List.drop_succ_cons, List.drop_zero]; (repeat (go_big_quiet_step (fail))); refine wpQuiet_nil ?_; intro _ hw'; obtain ⟨nq, hw''⟩ := hw'; subst hw'')
                        go_wp2
                        exact ⟨⟨j + 1, by go_num, by omega, BO_own HS2.out (fun _ _ => rfl), HGP.out, (below_drewN hBr nq).setCell hgB _⟩, by simp [intOf]; omega⟩
                      · obtain rfl : j = 14 := by omega
                        rw [← HE.out] at hown
                        have HOW := Lib.hid hown
                        have HGP := Lib.hid hgp
                        clear hown hgp t1
                        go_wp2_with fail
                        go_roundw
                        case rel => exact ⟨k + 1, by go_num, by omega, by rw [← HL4.out]; exact HOW.out, HGP.out, hBr⟩
                        case measure => simp [intOf]; omega
                · obtain rfl : k = 8 * s.size := by omega
                  have t1 : ¬ ((8 * s.size : Nat) : Int) + 32 < (L1.length : Int) := by omega
                  have hll := divs_length L2 (8 * s.size)
                  rw [HLL.out] at hll
                  have HC5 := HCR4.out
                  generalize divs L2 (8 * s.size) = L3 at *
                  have HC := Lib.hid HC5
                  have HOW := Lib.hid hown
                  have HBR := Lib.hid hBr
                  obtain ⟨N, hN⟩ : ∃ N, N = 8 * s.size := ⟨_, rfl⟩
                  rw [← hN] at t1 hlen
                  have t2 : (L1.length : Int) = (N : Int) + 32 := by omega
                  have HT2 := Lib.hid t2
                  have HLN := Lib.hid hlen
                  have HL3 := Lib.hid hll
                  have hNl : (N : Int) ≤ 800000 := by omega
                  have hLI : (L1.length : Int) ≤ 800032 := by omega
                  have hLI0 : (32 : Int) ≤ (L1.length : Int) := by omega
                  rw [← hN]
                  have HNN := Lib.hid hN
                  clear HC5 hown hgp hkl hll hlen t2 HCR4 hBr hN
                  go_wp2_with fail
                  go_loopw [12, 13] (fun cv u wr'' => RtRel w L3 wr cv u wr'') (fun _ u _ => (intOf u + 40).toNat)
                  case atStart => exact ⟨0, by rw [HL3.out]; exact val_i64 (by simp), Nat.zero_le _, rfl, rfl⟩
                  case round =>
                    obtain ⟨j, rfl, hj, rfl, rfl⟩ := hrel
                    rw [HL3.out]
                    by_cases hjl : j < 32
                    · have hlt := tailNum_lt L3 j
                      have hlt2 : tailNum L3 j < 2147483648 := Nat.lt_of_lt_of_le hlt (Nat.pow_le_pow_right (n := 2) (j := 31) (by decide) (by omega))
                      have hsucc : tailNum L3 (j + 1) = tailNum L3 j * 2 + (if L3.getD (L3.length - 1 - j) false then 0 else 1) := rfl
                      rw [HL3.out] at hsucc
                      obtain ⟨m, hm⟩ : ∃ m, m = L1.length - 1 - j := ⟨_, rfl⟩
                      rw [← hm] at hsucc
                      have hL3 := HL3.out
                      have hmI : (L1.length : Int) - 1 - (j : Int) = (m : Int) := by omega
                      obtain ⟨g, rfl, hnn, hgB, cell, fr, st⟩ := BO_at HOW.out (k := m) (by omega)
                      have g1 : (L1.length : Int) - 32 ≤ (m : Int) := by omega
                      have g2 : (m : Int) < (L1.length : Int) := by omega
                      have g0 : (0 : Int) ≤ (m : Int) := by omega
                      have HS := Lib.hid hsucc
                      have HM := Lib.hid hmI
                      rw [hmI]
                      generalize L3.getD m false = b at *
                      obtain ⟨c0, hc0⟩ : ∃ c0, c0 = tailNum L3 j := ⟨_, rfl⟩
                      rw [← hc0] at hlt2 ⊢
                      have HC0 := Lib.hid hc0
                      have hcI : (c0 : Int) < 2147483648 := by omega
                      clear hsucc hm hmI hlt st hL3 hc0 hnn
                      cases b with
                      | true =>
                        go_wp2_with fail
                        go_roundw
                        case rel => exact ⟨j + 1, val_i64 (by have := HM.out; have := HL3.out; omega), by omega, val_u32n (by rw [HS.out, ← HC0.out]; simp), rfl⟩
                        case measure => simp [intOf]; omega
                      | false =>
                        go_wp2_with fail
                        go_roundw
                        case rel => exact ⟨j + 1, val_i64 (by have := HM.out; have := HL3.out; omega), by omega, val_u32n (by rw [HS.out, ← HC0.out]; simp), rfl⟩
                        case measure => simp [intOf]; omega
                    · obtain rfl : j = 32 := by omega
                      go_wp2_with fail
                      go_ret
                      exact ⟨ret_u32 HC.out.symm, HBR.out⟩
end Go.Proofs.YtejbookaflnpeaaDoor
