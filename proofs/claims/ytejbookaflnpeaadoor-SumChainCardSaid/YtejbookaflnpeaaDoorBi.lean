/- The law SumBit: its walk. -/
import Derived.Test.YtejbookaflnpeaaDoorGo
import Derived.Test.YtejbookaflnpeaaDoorDb
import Derived.Test.YtejbookaflnpeaaDoorBp
import Derived.Deep.RegionHeld3
import Derived.Deep.RegionWith
namespace Go.Proofs.YtejbookaflnpeaaDoor
open Go Go.RowKit
set_option linter.unusedVariables false

set_option maxRecDepth 100000 in
set_option maxHeartbeats 1000000 in
theorem bit_out {w : World} {ao : Option Addr} {c : Nat} {xs : List UInt8} {z : Int} {t : Nat} (ht : Tables w S0 K0) (hz : -9223372036854775808 ≤ z ∧ z ≤ 9223372036854775807) (htl : t < 4294967296) (hl : xs.length ≤ 9223372036854775807) (h : 300 < xs.length ∨ z < 0 ∨ 8 * (xs.length : Int) ≤ z ∨ t = 0) :
    Calls Tryd.prog 8 #[.slice ao xs.length c, .int .i64 z, .int .u32 (t : Int)] w fun e w' => e = .returned (.bool true) ∧ Below w.heap.size w w' := by
  have HK := Lib.hid (known_any ht)
  clear ht
  obtain ⟨hz0, hz1⟩ := hz
  by_cases h1 : 300 < xs.length
  · have hi : (300 : Int) < (xs.length : Int) := by omega
    clear h h1
    go_enter Tryd.func8, Tryd.ntmps8
    go_wp2_with fail
    refine HK.out.mono ?_
    rintro e w0 ⟨rfl, hB0⟩
    go_wp2_with fail
    go_ret
    exact ⟨rfl, hB0⟩
  · have hi : ¬ (300 : Int) < (xs.length : Int) := by omega
    have hi2 : (xs.length : Int) ≤ 300 := by omega
    by_cases h2 : z < 0
    · clear h h1 hi
      go_enter Tryd.func8, Tryd.ntmps8
      go_wp2_with fail
      refine HK.out.mono ?_
      rintro e w0 ⟨rfl, hB0⟩
      go_wp2_with fail
      go_ret
      exact ⟨rfl, hB0⟩
    · have h2' : 0 ≤ z := by omega
      by_cases h3 : 8 * (xs.length : Int) ≤ z
      · clear h h1 hi h2
        go_enter Tryd.func8, Tryd.ntmps8
        go_wp2_with fail
        refine HK.out.mono ?_
        rintro e w0 ⟨rfl, hB0⟩
        go_wp2_with fail
        go_ret
        exact ⟨rfl, hB0⟩
      · have h3' : z < 8 * (xs.length : Int) := by omega
        obtain rfl : t = 0 := by omega
        clear h h1 hi h2 h3
        go_enter Tryd.func8, Tryd.ntmps8
        go_wp2_with fail
        refine HK.out.mono ?_
        rintro e w0 ⟨rfl, hB0⟩
        go_wp2_with fail
        go_ret
        exact ⟨rfl, hB0⟩
theorem bo_at {wr : World} {base : Nat} {ao : Option Addr} {n c : Nat} {l : List UInt8} (h : wr.ownsRow base 5 1 (.slice ao n c) n (bvs l)) (hn : l.length = n) {k : Nat} (hk : k < n) :
    ∃ g, ao = some ⟨g, 0, none⟩ ∧ base ≤ g ∧ wr.cell? ⟨g, k, none⟩ = some (.int .u8 ((l.getD k 0).toNat : Int)) ∧ wr.frozen? ⟨g, k, none⟩ = false ∧ ∀ b : UInt8, (wr.setCell ⟨g, k, none⟩ (bv b)).ownsRow base 5 1 (.slice ao n c) n (bvs (l.set k b)) := by
  have h' := h
  rcases h.2 with ⟨e, e0⟩ | ⟨g, cap, cur, e, hb, _⟩
  · omega
  · injection e with e1 e2 e3
    subst e1 e3
    refine ⟨g, rfl, hb, ?_, h'.frozenAt k, fun b => ?_⟩
    · rw [h'.cellAt k (by omega)]
      have : k < l.length := by omega
      simp [bvs, bv, List.getD, this]
    · have := (h'.stored k (bv b)).1
      simpa [bvs, List.map_set] using this
theorem str_inj {l m : List UInt8} (h : (str l).toList = (str m).toList) : l = m := by
  have e : ∀ l : List UInt8, (str l).toList = l := fun l => by
    first
      | (simp [str])
      | (rw [ByteArray.toList_eq]; rfl)
  rwa [e, e] at h
theorem bit_bool {q1 q2 : Nat} {l m : List UInt8} (h : q1 = q2 ↔ l = m) : (((q1 : Int) == (q2 : Int)) == ((str l).toList == (str m).toList)) = true := by
  by_cases e : l = m
  · obtain rfl := h.2 e
    subst e
    simp
  · have h1 : ((q1 : Int) == (q2 : Int)) = false := by
      have h3 : ¬ q1 = q2 := fun hh => e (h.1 hh)
      have : ¬ (q1 : Int) = (q2 : Int) := by omega
      simpa using this
    have h2 : ((str l).toList == (str m).toList) = false := by
      have : ¬ (str l).toList = (str m).toList := fun hh => e (str_inj hh)
      simpa using this
    rw [h1, h2]
    rfl
def BiRel (w : World) (B a t : Nat) (l : List UInt8) (v u : Value) (wr : World) : Prop :=
  ∃ k : Nat, u = .int .i64 (k : Int) ∧ k ≤ 32 ∧ wr.ownsRow B 5 1 v l.length (bvs (turns a t l k)) ∧ Below B w wr
set_option maxRecDepth 100000 in
set_option maxHeartbeats 2000000 in
theorem bit_in {w : World} {ao : Option Addr} {c : Nat} {xs : List UInt8} {a t : Nat} (h : Bs w (.slice ao xs.length c) xs) (ht : Tables w S0 K0) (htl : t < 4294967296) (hl : xs.length ≤ 300) (ha : a < 8 * xs.length) (ht0 : t ≠ 0) :
    Calls Tryd.prog 8 #[.slice ao xs.length c, .int .i64 (a : Int), .int .u32 (t : Int)] w fun e w' => e = .returned (.bool true) ∧ Below w.heap.size w w' := by
  obtain ⟨i0, hi0, hz0, hz1, hz2⟩ := info_parts Tryd.info5
  have HK := Lib.hid (known_any ht)
  have HB := Lib.hid h
  have hi : (xs.length : Int) ≤ 300 := by omega
  have ha1 : (a : Int) < 8 * (xs.length : Int) := by omega
  have ha2 : (a : Int) < 2400 := by omega
  have hti : ¬ (t : Int) = 0 := by omega
  have d1 : decide ((300 : Int) < (xs.length : Int)) = false := decide_eq_false (by omega)
  have d2 : decide ((a : Int) < 0) = false := decide_eq_false (by omega)
  have d3 : decide (8 * (xs.length : Int) ≤ (a : Int)) = false := decide_eq_false (by omega)
  have d4 : ((t : Int) == 0) = false := by simpa using hti
  clear ht h
  go_enter Tryd.func8, Tryd.ntmps8
  go_wp2_with fail
  refine HK.out.mono ?_
  rintro e w0 ⟨rfl, hB0⟩
  have z0 := hB0.size
  have src1 := Bs.app (HB.out.below (hB0.alloc z0 (.cells #[] 5)) (Nat.le_refl _))
  have S1 := Lib.hid src1.1
  have hown0 : (w0.alloc (.cells #[] 5)).ownsRow w0.heap.size 5 1 (.slice (some ⟨w0.heap.size, 0, none⟩) 0 0) 0 [] := World.ownsRow_made w0 #[] 0 (Nat.le_refl _) (Nat.zero_le _) rfl
  clear src1 HK
  go_wp2_with (at_builtin; refine wpList_append_own_src _ rfl (.tmp 30) (.tmp 31) 22 22 rfl w0.heap.size 5 i0 (.int .u8 0) 1 1 Tryd.underlying22 hi0 hz0 hz1 hz2 rfl _ 0 [] rfl hown0 _ xs.length (bvs xs) rfl S1.out ?b1 ?b2 (by simp) ?next)
  case b1 => unfold maxLen; omega
  case b2 => omega
  case next =>
    rintro v1 w4 ⟨hown1, hgrow, hat⟩
    obtain ⟨gm, hgm, hgm1, hgm2⟩ : ∃ gm, v1.ownBlock = some gm ∧ w0.heap.size ≤ gm ∧ gm < w4.heap.size := by
      have hlt := hown1.lt
      rcases hat with h | h
      · exact ⟨_, h, Nat.le_refl _, (hlt _ h).2⟩
      · exact ⟨_, h, by simp, (hlt _ h).2⟩
    obtain ⟨am, cm, rfl⟩ := own_sl hown1
    have B4 : Below w0.heap.size w0 w4 := ((Below.refl _ _).alloc (Nat.le_refl _) _).grown hgrow (by simp) (fun k e => by cases e; exact Nat.le_refl _)
    have O1 := Lib.hid hown1
    have HB4 := Lib.hid B4
    clear hown1 hgrow hat hown0 S1 B4
    go_wp2_with fail
    go_loopw [33] (fun u wr => BiRel w0 w0.heap.size a t xs (.slice am xs.length cm) u wr) (fun u _ => 32 - (intOf u).toNat)
    case atStart => exact ⟨0, rfl, Nat.zero_le _, O1.out, HB4.out⟩
    case round =>
      clear O1 HB4
      obtain ⟨k, rfl, hk, hown, hBr⟩ := hrel
      by_cases hkl : k < 32
      · have hst : turns a t xs (k + 1) = turn1 a t k (turns a t xs k) := rfl
        have htl2 := turns_length a t xs k
        obtain ⟨d, hd⟩ : ∃ d, d = t / 2 ^ k := ⟨_, rfl⟩
        have hdl : d < 4294967296 := by rw [hd]; exact Nat.lt_of_le_of_lt (Nat.div_le_self _ _) htl
        have htb : t.testBit k = decide (d % 2 = 1) := by rw [hd, Nat.testBit_eq_decide_div_mod_eq]
        have e1 : (t : Int) / 2 ^ k = (d : Int) := by rw [hd]; simp
        have e2 : bits BinOp.and IntKind.u32 (d : Int) 1 = ((d % 2 : Nat) : Int) := by
          have := u32_and_nat d 1 hdl (by decide)
          rw [show ((1 : Nat) : Int) = 1 from rfl] at this
          rw [this, Nat.and_one_is_mod]
        have HST := Lib.hid hst
        have HTB := Lib.hid htb
        have HTL := Lib.hid htl2
        have HO := Lib.hid hown
        clear hst htb hd htl2 hown
        rcases Nat.mod_two_eq_zero_or_one d with hd2 | hd2
        · rw [hd2] at e2
          have HD := Lib.hid hd2
          clear hd2
          go_wp2_with fail
          have hn : turns a t xs (k + 1) = turns a t xs k := by
            rw [HST.out]
            unfold turn1
            rw [if_neg]
            rintro ⟨q1, _⟩
            rw [HTB.out, HD.out] at q1
            cases q1
          exact ⟨⟨k + 1, by go_num, by omega, by rw [hn]; exact HO.out, hBr⟩, by simp [intOf]; omega⟩
        · rw [hd2] at e2
          have HD := Lib.hid hd2
          clear hd2
          by_cases hlt : a + k < 8 * xs.length
          · have hltI : (a : Int) + (k : Int) < 8 * (xs.length : Int) := by omega
            obtain ⟨m, hm⟩ : ∃ m, m = (a + k) / 8 := ⟨_, rfl⟩
            obtain ⟨r, hr⟩ : ∃ r, r = (a + k) % 8 := ⟨_, rfl⟩
            have hmI : ((a : Int) + (k : Int)) / 8 = (m : Int) := by omega
            have hrI : ((a : Int) + (k : Int)) % 8 = (r : Int) := by omega
            have hml : m < xs.length := by omega
            have hmli : (m : Int) < (xs.length : Int) := by omega
            have hm0 : (0 : Int) ≤ (m : Int) := by omega
            have hr8 : r < 8 := by omega
            have hr8i : (r : Int) < 8 := by omega
            have HM := Lib.hid hm
            have HR := Lib.hid hr
            obtain ⟨g, hgo, hgb, hcell, hfr, hset⟩ := bo_at HO.out HTL.out hml
            subst hgo
            obtain ⟨y, hy⟩ : ∃ y, y = ((turns a t xs k).getD m 0).toNat := ⟨_, rfl⟩
            have hyl : y < 256 := by rw [hy]; exact UInt8.toNat_lt _
            rw [← hy] at hcell
            have hpw : 2 ^ r < 256 := Nat.lt_of_le_of_lt (Nat.pow_le_pow_right (n := 2) (by decide) (show r ≤ 7 by omega)) (by decide)
            have e3 : bits BinOp.xor IntKind.u8 (y : Int) ((2 ^ r : Nat) : Int) = ((y ^^^ 2 ^ r : Nat) : Int) := u8_xor_nat _ _ hyl hpw
            have HSET := Lib.hid (hset (UInt8.ofNat (y ^^^ 2 ^ r)))
            have HY := Lib.hid hy
            have hyI : (y : Int) < 256 := by omega
            clear hm hr hset hy
            go_wp2_with fail
            have hv : bits BinOp.xor IntKind.u8 (y : Int) (2 ^ r % 256) = ((UInt8.ofNat (y ^^^ 2 ^ r)).toNat : Int) := by
              have hx : y ^^^ 2 ^ r < 2 ^ 8 := Nat.xor_lt_two_pow hyl hpw
              have e4 : ((2 : Int) ^ r % 256) = ((2 ^ r : Nat) : Int) := by
                rw [Int.natCast_pow]
                show (2 : Int) ^ r % 256 = 2 ^ r
                apply Int.emod_eq_of_lt
                · exact Int.pow_nonneg (by decide)
                · have : ((2 ^ r : Nat) : Int) < 256 := by omega
                  simpa using this
              rw [e4, e3, UInt8.toNat_ofNat', Nat.mod_eq_of_lt hx]
            have hn : turns a t xs (k + 1) = (turns a t xs k).set m (UInt8.ofNat (y ^^^ 2 ^ r)) := by
              rw [HST.out]
              unfold turn1
              rw [if_pos ⟨by rw [HTB.out, HD.out]; rfl, by rw [HTL.out]; exact hlt⟩, ← HM.out, ← HR.out, ← HY.out]
            refine ⟨⟨k + 1, by go_num, by omega, ?_, hBr.setCell hgb _⟩, by simp [intOf]; omega⟩
            rw [hv, hn]
            exact HSET.out
          · have hltI : ¬ (a : Int) + (k : Int) < 8 * (xs.length : Int) := by omega
            go_wp2_with fail
            have hn : turns a t xs (k + 1) = turns a t xs k := by
              rw [HST.out]
              unfold turn1
              rw [if_neg]
              rintro ⟨_, q2⟩
              rw [HTL.out] at q2
              omega
            exact ⟨⟨k + 1, by go_num, by omega, by rw [hn]; exact HO.out, hBr⟩, by simp [intOf]; omega⟩
      · obtain rfl : k = 32 := by omega
        have hyl := turns_length a t xs 32
        have hseen := bit_seen a t xs
        generalize turns a t xs 32 = ys at *
        have hBw := hB0.trans (hBr.mono z0)
        have bX := HB.out.below hBw (Nat.le_refl _)
        have bY : Bs wr (.slice am xs.length cm) ys := by rw [← hyl] at hown ⊢; exact Bs.ofOwn hown
        have zr := hBr.size
        have crcX : ∀ W g, Below wr.heap.size wr W → W.heap[g]? = some (.cells #[.slice ao xs.length c] 22 (0, 0)) → Calls Tryd.prog 16 #[.slice (some ⟨g, 0, none⟩) 1 1] W fun e w' => e = .returned (.int .u32 ((crcOf xs : Nat) : Int)) ∧ W = w' := by
          intro W g hW hg
          have o := crc_any (Pt.one hg (bX.below hW (Nat.le_refl _))) (by simp) (by simp; omega)
          rwa [show bytesOf [(Value.slice ao xs.length c, xs)] = xs by simp [bytesOf]] at o
        have crcY : ∀ W g, Below wr.heap.size wr W → W.heap[g]? = some (.cells #[.slice am xs.length cm] 22 (0, 0)) → Calls Tryd.prog 16 #[.slice (some ⟨g, 0, none⟩) 1 1] W fun e w' => e = .returned (.int .u32 ((crcOf ys : Nat) : Int)) ∧ W = w' := by
          intro W g hW hg
          have o := crc_any (Pt.one hg (bY.below hW (Nat.le_refl _))) (by simp) (by simp; omega)
          rwa [show bytesOf [(Value.slice am xs.length cm, ys)] = ys by simp [bytesOf]] at o
        have CRCX := Lib.hid crcX
        have CRCY := Lib.hid crcY
        have HSEEN := Lib.hid hseen
        generalize crcOf xs = q1 at *
        generalize crcOf ys = q2 at *
        have cvX : ∀ W, Below wr.heap.size wr W → (convert 22 9 (.slice ao xs.length c)).run Tryd.prog W = .ok (.string (str xs)) W := fun W hW => (bX.below hW (Nat.le_refl _)).str
        have cvY : ∀ W, Below wr.heap.size wr W → (convert 22 9 (.slice am xs.length cm)).run Tryd.prog W = .ok (.string (str ys)) W := fun W hW => (bY.below hW (Nat.le_refl _)).str
        have r0 : Below wr.heap.size wr wr := Below.refl _ _
        have cx0 := cvX _ r0.drew
        have cy0 := cvY _ r0.drew
        have cx1 := fun o => cvX (wr.alloc o).drew ((r0.alloc (Nat.le_refl _) o).drew)
        have cy1 := fun o => cvY (wr.alloc o).drew ((r0.alloc (Nat.le_refl _) o).drew)
        have cx2 := fun o o' => cvX ((wr.alloc o).alloc o').drew (((r0.alloc (Nat.le_refl _) o).alloc (by simp) o').drew)
        have cy2 := fun o o' => cvY ((wr.alloc o).alloc o').drew (((r0.alloc (Nat.le_refl _) o).alloc (by simp) o').drew)
        have b1 := fun o => heap_alloc_new wr o
        have b2 : ∀ o o', ((wr.alloc o).alloc o').heap[wr.heap.size]? = some o := fun o o' => (Below.heap_alloc _ _ _ (by simp)).trans (heap_alloc_new wr o)
        have b3 : ∀ o o', ((wr.alloc o).alloc o').heap[wr.heap.size + 1]? = some o' := fun o o' => by
          have := heap_alloc_new (wr.alloc o) o'
          rwa [World.size_alloc] at this
        have kp : ∀ W, Below wr.heap.size wr W → Below wr.heap.size wr W ∧ (convert 22 9 (.slice ao xs.length c)).run Tryd.prog W = .ok (.string (str xs)) W ∧ (convert 22 9 (.slice am xs.length cm)).run Tryd.prog W = .ok (.string (str ys)) W := fun W hW => ⟨hW, cvX W hW, cvY W hW⟩
        have KP := Lib.hid kp
        have B1 := Lib.hid b1
        have B2 := Lib.hid b2
        have B3 := Lib.hid b3
        have R0 := Lib.hid r0
        have R1 := Lib.hid (fun o => (r0.alloc (Nat.le_refl _) o).drew)
        have R2 := Lib.hid (fun o o' => ((r0.alloc (Nat.le_refl _) o).alloc (by simp) o').drew)
        have HBW := Lib.hid hBw
        clear hseen cvX cvY b1 b2 b3 r0 crcX crcY bX bY hown hBr hBw HB kp cx0 cx1 cx2 cy0 cy1 cy2
        go_wp2_with fail
        go_region_held3 (fun w' => Below wr.heap.size wr w' ∧ (convert 22 9 (.slice ao xs.length c)).run Tryd.prog w' = .ok (.string (str xs)) w' ∧ (convert 22 9 (.slice am xs.length cm)).run Tryd.prog w' = .ok (.string (str ys)) w') (first | exact KP.out _ R0.out.drew | exact KP.out _ (R1.out _) | exact KP.out _ (R2.out _ _)) (first
          | (go_at_call 16; (with_reducible refine (CRCX.out _ _ (R1.out _) (B1.out _)).mono ?_); rintro e w' ⟨rfl, rfl⟩)
          | (go_at_call 16; (with_reducible refine (CRCX.out _ _ (R2.out _ _) (B2.out _ _)).mono ?_); rintro e w' ⟨rfl, rfl⟩)
          | (go_at_call 16; (with_reducible refine (CRCX.out _ _ (R2.out _ _) (B3.out _ _)).mono ?_); rintro e w' ⟨rfl, rfl⟩)
          | (go_at_call 16; (with_reducible refine (CRCY.out _ _ (R2.out _ _) (B2.out _ _)).mono ?_); rintro e w' ⟨rfl, rfl⟩)
          | (go_at_call 16; (with_reducible refine (CRCY.out _ _ (R2.out _ _) (B3.out _ _)).mono ?_); rintro e w' ⟨rfl, rfl⟩))
        all_goals
          go_wp2_with fail
          go_ret
          exact ⟨congrArg (fun b => Ending.returned (Value.bool b)) (bit_bool HSEEN.out), HBW.out.trans ((R2.out _ _).mono HBW.out.size)⟩
theorem bit_any {w : World} {ao : Option Addr} {c : Nat} {xs : List UInt8} {z : Int} {t : Nat} (h : Bs w (.slice ao xs.length c) xs) (ht : Tables w S0 K0) (hz : -9223372036854775808 ≤ z ∧ z ≤ 9223372036854775807) (htl : t < 4294967296) (hl : xs.length ≤ 9223372036854775807) :
    Calls Tryd.prog 8 #[.slice ao xs.length c, .int .i64 z, .int .u32 (t : Int)] w fun e w' => e = .returned (.bool true) ∧ Below w.heap.size w w' := by
  by_cases hc : 300 < xs.length ∨ z < 0 ∨ 8 * (xs.length : Int) ≤ z ∨ t = 0
  · exact bit_out ht hz htl hl hc
  · obtain ⟨a, rfl⟩ : ∃ a : Nat, z = (a : Int) := ⟨z.toNat, by omega⟩
    exact bit_in h ht htl (by omega) (by omega) (by omega)
end Go.Proofs.YtejbookaflnpeaaDoor
