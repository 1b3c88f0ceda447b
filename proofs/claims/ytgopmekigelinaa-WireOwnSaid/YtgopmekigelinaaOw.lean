/- The law WireOwn: its walk. -/
import Derived.Test.YtgopmekigelinaaDec
import Derived.Test.YtgopmekigelinaaOpen
import Derived.Deep.RegionWith
namespace Go.Proofs.Ytgopmekigelinaa
open Go Go.RowKit
set_option linter.unusedVariables false

/-- Numbers of a byte's size as cells. -/
def bis (zs : List Int) : List Value := zs.map (Value.int .u8)
theorem bvs_bis (l : List UInt8) : bvs l = bis (l.map fun b => (b.toNat : Int)) := by simp [bvs, bis, bv, Function.comp_def]

/-- Where a loop stands that writes into the slice v alone. -/
def OwnRel (w : World) (v : Value) (n : Nat) (bw : Nat) (rw2 : Option Nat) (br : Nat) (rr : Option Nat) (xs : List UInt8) (u : Value) (wr : World) : Prop :=
  ∃ (k : Nat) (zs : List Int), u = .int .i64 (k : Int) ∧ k ≤ n ∧ zs.length = n ∧ wr.ownsRow 0 5 1 v n (bis zs) ∧ Wr wr bw rw2 xs ∧ Rd wr br rr xs 0 0 ∧ Below w.heap.size w wr

theorem own_at {wr : World} {ao : Option Addr} {n c k : Nat} {zs : List Int} (h : wr.ownsRow 0 5 1 (.slice ao n c) n (bis zs)) (hz : zs.length = n) (hk : k < n) :
    ∃ g, ao = some ⟨g, 0, none⟩ ∧ wr.cell? ⟨g, k, none⟩ = some (.int .u8 (zs.getD k 0)) ∧ wr.frozen? ⟨g, k, none⟩ = false ∧ (Value.slice ao n c).ownBlock = some g := by
  rcases h.2 with ⟨e, e0⟩ | ⟨g, cap, cur, e, _⟩
  · omega
  · injection e with e1 e2 e3
    subst e1 e3
    refine ⟨g, rfl, ?_, h.frozenAt k, rfl⟩
    rw [h.cellAt k (by omega)]
    have : k < zs.length := by omega
    simp [bis, List.getD, this]
theorem own_set {w wr : World} {g n c k bw br : Nat} {rw2 rr : Option Nat} {xs : List UInt8} {zs : List Int} (h : wr.ownsRow 0 5 1 (.slice (some ⟨g, 0, none⟩) n c) n (bis zs)) (z : Int) (hW : Wr wr bw rw2 xs) (hR : Rd wr br rr xs 0 0) (hB : Below w.heap.size w wr)
    (h1 : bw ≠ g) (h2 : rw2 ≠ some g) (h3 : br ≠ g) (h4 : rr ≠ some g) (h5 : w.heap.size ≤ g) :
    (wr.setCell ⟨g, k, none⟩ (.int .u8 z)).ownsRow 0 5 1 (.slice (some ⟨g, 0, none⟩) n c) n (bis (zs.set k z)) ∧ Wr (wr.setCell ⟨g, k, none⟩ (.int .u8 z)) bw rw2 xs ∧ Rd (wr.setCell ⟨g, k, none⟩ (.int .u8 z)) br rr xs 0 0 ∧ Below w.heap.size w (wr.setCell ⟨g, k, none⟩ (.int .u8 z)) := by
  refine ⟨by have := (h.stored k (.int .u8 z)).1; simpa [bis, List.map_set] using this, ?_, ?_, hB.setCell h5 _⟩
  · exact hW.keep (Below.heap_setCell wr _ _ bw h1) (fun g' e => Below.heap_setCell wr _ _ g' (by intro e'; apply h2; rw [e, e']))
  · exact hR.keep (Below.heap_setCell wr _ _ br h3) (fun g' e => Below.heap_setCell wr _ _ g' (by intro e'; apply h4; rw [e, e']))

/-- Where the last loop stands. -/
def OwnRd (w : World) (br : Nat) (rr : Option Nat) (xs : List UInt8) (u : Value) (wr : World) : Prop :=
  ∃ k : Nat, u = .int .i64 (k : Int) ∧ k ≤ xs.length ∧ Rd wr br rr xs k 0 ∧ Below w.heap.size w wr
theorem sl_at {w : World} {ao : Option Addr} {n c k : Nat} {xs : List UInt8} (h : Sl w (.slice ao n c) xs) (hk : k < xs.length) : ∃ a, ao = some a ∧ w.cell? (a.add k) = some (.int .u8 ((xs[k]'hk).toNat : Int)) := by
  obtain ⟨ao', c', e, hno, hs⟩ := h
  injection e with e1 e2 e3
  subst e1 e2 e3
  cases ao with
  | none => have := hno rfl; subst this; simp at hk
  | some a => exact ⟨a, rfl, hs a rfl k _ (bvs_get xs k hk)⟩

set_option maxRecDepth 100000 in
set_option maxHeartbeats 1000000 in
theorem own_long (ao : Option Addr) (c : Nat) (xs : List UInt8) (w : World) (h : 1000 < xs.length) :
    Calls Try.prog 7 #[.slice ao xs.length c] w fun e w' => e = .returned (.bool true) ∧ Below w.heap.size w w' := by
  have hi : (1000 : Int) < (xs.length : Int) := by omega
  go_enter Try.func7, Try.ntmps7
  go_wp2_with fail
  refine (writes_any w).mono ?_
  rintro e w0 ⟨rfl, hB0⟩
  go_wp2_with fail
  go_ret
  exact ⟨rfl, hB0⟩

set_option maxRecDepth 100000 in
set_option maxHeartbeats 2000000 in
theorem own_short (ao : Option Addr) (c : Nat) (xs : List UInt8) (w : World) (hS : Sl w (.slice ao xs.length c) xs) (h : xs.length ≤ 1000) :
    Calls Try.prog 7 #[.slice ao xs.length c] w fun e w' => e = .returned (.bool true) ∧ Below w.heap.size w w' := by
  obtain ⟨i0, hi0, hz0, hz1, hz2⟩ := info_parts Try.info5
  have hi : (xs.length : Int) ≤ 1000 := by omega
  go_enter Try.func7, Try.ntmps7
  go_wp2_with fail
  refine (writes_any w).mono ?_
  rintro e w0 ⟨rfl, hB0⟩
  have z0 := hB0.size
  have hS0 := hS.below (hB0.alloc z0 (.cells #[] 5))
  obtain ⟨ao', c', e', q2, q3⟩ := hS0
  injection e' with e1 e2 e3
  subst e1 e3
  have S : Src Try.prog 1 24 (.slice ao xs.length c) xs.length (bvs xs) (w0.alloc (.cells #[] 5)) := Src.any _ (e' := 5) Try.underlying24 ao _ c (bvs xs) (by rw [bvs_length, Nat.mul_one]) (fun h => by rw [q2 h]; rfl) q3 (bvs_one xs)
  have hown0 : (w0.alloc (.cells #[] 5)).ownsRow 0 5 1 (.slice (some ⟨w0.heap.size, 0, none⟩) 0 0) 0 [] := World.ownsRow_made w0 #[] 0 (Nat.zero_le _) (Nat.zero_le _) rfl
  have HS := Lib.hid S
  clear q2 q3 e2 S
  go_wp2_with (at_builtin; refine wpList_append_own_src _ rfl (.tmp 16) (.tmp 17) 24 24 rfl 0 5 i0 (.int .u8 0) 1 1 Try.underlying24 hi0 hz0 hz1 hz2 rfl _ 0 [] rfl hown0 _ xs.length (bvs xs) rfl HS.out ?b1 ?b2 (Nat.zero_le _) ?next)
  case b1 => unfold maxLen; omega
  case b2 => omega
  case next =>
    rintro v1 w1 ⟨hown1, hgrow, hat⟩
    obtain ⟨gm, hgm, hgm1, hgm2⟩ : ∃ gm, v1.ownBlock = some gm ∧ w0.heap.size ≤ gm ∧ gm < w1.heap.size := by
      have hlt := hown1.lt
      rcases hat with h | h
      · exact ⟨_, h, Nat.le_refl _, (hlt _ h).2⟩
      · exact ⟨_, h, by simp, (hlt _ h).2⟩
    obtain ⟨am, cm, rfl⟩ := own_slice hown1
    have hB1 : Below w.heap.size w w1 := (hB0.alloc z0 _).grown hgrow (by simp; omega) (fun k e => by cases e; exact z0)
    have z1 : w0.heap.size < w1.heap.size := by have := hgrow.size; simp at this; omega
    clear HS hown0 hgrow hat
    have hw1 := Wr.new w1
    obtain ⟨q1, q2, q3⟩ := own_slice_src hown1
    have hownA := own_later hown1 ((Below.refl w1.heap.size w1).alloc (Nat.le_refl _) (.cells #[.slice none 0 0] 26)) (Nat.le_refl _)
    obtain ⟨p1, p2, p3⟩ := own_slice_src hownA
    have W1 := Lib.hid (byte_any hw1 am xs.length cm xs rfl (fun e => p2 e) p3 (by simp; omega))
    have hBA := hB1.alloc (by omega) (.cells #[.slice none 0 0] 26)
    clear q1 q2 q3 p1 p2 p3
    go_wp2_with fail
    refine W1.out.mono ?_
    rintro e w2 ⟨rfl, rw2, hw2, hF2, hrw2⟩
    rw [List.nil_append] at hw2
    have hB2 := hF2.belowN hBA (by simp; omega) (by omega)
    have z2 := hF2.size
    simp only [World.size_alloc] at z2
    have hrw3 : ∀ g, rw2 = some g → w1.heap.size + 1 ≤ g := by
      rcases hrw2 with e | ⟨g, e, hg⟩
      · intro g' e'; rw [e] at e'; cases e'
      · intro g' e'; rw [e] at e'; cases e'; simpa using hg
    have hown2 : w2.ownsRow 0 5 1 (.slice am xs.length cm) xs.length (bvs xs) := by
      refine ⟨hownA.1, ?_⟩
      rcases hownA.2 with h2 | ⟨g, cap, cur, e, h1, hh, rest⟩
      · exact Or.inl h2
      · refine Or.inr ⟨g, cap, cur, e, h1, (hF2.block g ?_ ?_ (by simp)).trans hh, rest⟩
        · exact (Array.getElem?_eq_some_iff.1 hh).1
        · have : g = gm := by rw [e] at hgm; simpa [Value.ownBlock] using hgm
          omega
    obtain ⟨q1, q2, q3⟩ := own_slice_src hown2
    have R1 := Lib.hid (read_any (w := w2) am xs.length cm xs rfl q2 q3 (by omega))
    clear q1 q2 q3 W1 hownA hown1 hw1 hBA hrw2
    go_wp2_with fail
    refine R1.out.mono ?_
    rintro e w3 ⟨br, rr, rfl, hR3, hB3, hbr, hrr⟩
    have hw3 := hw2.later hB3
    have hrlt := hw2.rlt
    have hown3 := own_later hown2 hB3 (Nat.le_refl _)
    have hB3' := hB2.trans (hB3.mono (by omega))
    have z3 := hB3.size
    rw [bvs_bis] at hown3
    clear R1 hown2 hw2 hB2
    go_wp2_with fail
    go_loopw [25] (fun u wr => OwnRel w (.slice am xs.length cm) xs.length w1.heap.size rw2 br rr xs u wr) (fun u _ => xs.length - (intOf u).toNat)
    case atStart => exact ⟨0, _, rfl, Nat.zero_le _, by simp, hown3, hw3, hR3, hB3'⟩
    case round =>
      obtain ⟨k, zs, rfl, hk, hzs, hownr, hwr, hRr, hBr⟩ := hrel
      by_cases hkl : k < xs.length
      · obtain ⟨g, rfl, hcell, hfr, hgo⟩ := own_at hownr hzs hkl
        obtain rfl : g = gm := by rw [hgm] at hgo; injection hgo with e; exact e.symm
        have U := fun z => own_set (w := w) (k := k) hownr z hwr hRr hBr (by omega) (by intro e; have := hrw3 _ e; omega) (by omega) (by intro e; have := hrr _ e; omega) (by omega)
        have HU := Lib.hid U
        have hki : (k : Int) < (xs.length : Int) := by omega
        clear U hownr hwr hRr hBr hgo
        go_wp2_with fail
        go_roundw
        case rel => exact ⟨k + 1, zs.set k _, by go_num, by omega, by simp [hzs], (HU.out _).1, (HU.out _).2.1, (HU.out _).2.2.1, (HU.out _).2.2.2⟩
        case measure => simp [intOf]; omega
      · obtain rfl : k = xs.length := by omega
        have hbl := hwr.lt
        have hbs := hwr.rlt
        have B1 := Lib.hid (bytes_any hwr (by omega))
        have zr := hBr.size
        clear hownr hkl
        go_wp2_with fail
        refine B1.out.mono ?_
        rintro e w4 ⟨ax, cx, rfl, hown4, hB4⟩
        have hw4 := hwr.later hB4
        have hR4 := hRr.below (B := 0) hB4
        have hl4 := hRr.lt
        have hlr4 := hRr.rlt
        have hB4' := hBr.trans (hB4.mono zr)
        have hgx : ∀ g, (Value.slice ax xs.length cx).ownBlock = some g → wr.heap.size ≤ g := fun g hg => (hown4.lt g hg).1
        have hown4' : w4.ownsRow 0 5 1 (.slice ax xs.length cx) xs.length (bis (xs.map fun b => (b.toNat : Int))) := by
          rw [← bvs_bis]
          refine ⟨hown4.1, ?_⟩
          rcases hown4.2 with h2 | ⟨g, cap, cur, e, h1, rest⟩
          · exact Or.inl h2
          · exact Or.inr ⟨g, cap, cur, e, Nat.zero_le _, rest⟩
        clear B1 hwr hRr hBr hown4
        go_wp2_with fail
        go_loopw [38] (fun u wr' => OwnRel w (.slice ax xs.length cx) xs.length w1.heap.size rw2 br rr xs u wr') (fun u _ => xs.length - (intOf u).toNat)
        case atStart => exact ⟨0, _, rfl, Nat.zero_le _, by simp, hown4', hw4, hR4, hB4'⟩
        case round =>
          obtain ⟨k, zs, rfl, hk, hzs, hownr, hwr, hRr, hBr⟩ := hrel
          by_cases hkl : k < xs.length
          · obtain ⟨g, rfl, hcell, hfr, hgo⟩ := own_at hownr hzs hkl
            have hg := hgx g hgo
            have U := fun z => own_set (w := w) (k := k) hownr z hwr hRr hBr (by omega) (by intro e; have := hbs _ e; omega) (by omega) (by intro e; have := hlr4 _ e; omega) (by omega)
            have HU := Lib.hid U
            have hki : (k : Int) < (xs.length : Int) := by omega
            clear U hownr hwr hRr hBr hgo
            go_wp2_with fail
            go_roundw
            case rel => exact ⟨k + 1, zs.set k _, by go_num, by omega, by simp [hzs], (HU.out _).1, (HU.out _).2.1, (HU.out _).2.2.1, (HU.out _).2.2.2⟩
            case measure => simp [intOf]; omega
          · obtain rfl : k = xs.length := by omega
            have hSr := (hS.below hBr.drew).convert.1
            have zr2 := hBr.size
            clear hownr hkl
            go_wp2_with fail
            go_region_with (first
              | (go_at_call 20; refine (bytes_any hwr.drew (by omega)).mono ?_; rintro e w7 ⟨a7, c7, rfl, hown7, hB7⟩; have hcv7 := own_convert hown7; have hB7' := hBr.drew.trans (hB7.mono (by simpa using zr2)); have hS7 := (hS.below hB7').convert.1; have hR7 := hRr.drew.below (B := 0) hB7))
            all_goals
              have z7 := hB7'.size
              have hSS := hS.below hB7'
              go_wp2_with fail
              go_loopw [55] (fun u wr3 => OwnRd w br rr xs u wr3) (fun u _ => xs.length - (intOf u).toNat)
              case atStart => exact ⟨0, rfl, Nat.zero_le _, hR7, hB7'⟩
              case round =>
                obtain ⟨k, rfl, hk, hRr3, hBr3⟩ := hrel
                by_cases hkl : k < xs.length
                · have hki : (k : Int) < (xs.length : Int) := by omega
                  obtain ⟨a, rfl, hcell⟩ := sl_at (hS.below hBr3) hkl
                  have N := rbyte_any hRr3 (by omega)
                  rw [rb_ok hkl] at N
                  dsimp only at N
                  generalize xs[k] = y at N hcell
                  have HN := Lib.hid N
                  have zr3 := hBr3.size
                  clear N hSS
                  go_wp2_with fail
                  refine HN.out.mono ?_
                  rintro e w9 ⟨rfl, hR9, hF9⟩
                  unfold bv
                  go_wp2_with fail
                  go_roundw
                  case rel => exact ⟨k + 1, by go_num, by omega, hR9, hF9.belowN hBr3 zr3 (by omega)⟩
                  case measure => simp [intOf]; omega
                · obtain rfl : k = xs.length := by omega
                  have N := end_any hRr3 (by omega)
                  rw [show rend xs xs.length 0 = 0 from by simp [rend, rl]] at N
                  have HN := Lib.hid N
                  clear N hSS hkl
                  go_wp2_with fail
                  refine HN.out.mono ?_
                  rintro e w9 ⟨rfl, m9, rfl⟩
                  go_wp2_with fail
                  go_ret
                  exact ⟨rfl, below_drewN hBr3 m9⟩
theorem own_any (ao : Option Addr) (c : Nat) (xs : List UInt8) (w : World) (hS : Sl w (.slice ao xs.length c) xs) :
    Calls Try.prog 7 #[.slice ao xs.length c] w fun e w' => e = .returned (.bool true) ∧ Below w.heap.size w w' := by
  by_cases h : 1000 < xs.length
  · exact own_long ao c xs w h
  · exact own_short ao c xs w hS (by omega)
end Go.Proofs.Ytgopmekigelinaa
