/- The law SumCRC: its walk. -/
import Derived.Test.YtejbookaflnpeaaDoorRc
import Derived.Deep.RegionWith
namespace Go.Proofs.YtejbookaflnpeaaDoor
open Go Go.RowKit
set_option linter.unusedVariables false

set_option maxRecDepth 100000 in
set_option maxHeartbeats 1000000 in
theorem crcl_long {w : World} {ao : Option Addr} {c : Nat} {xs : List UInt8} (ht : Tables w S0 K0) (hL : 200 < xs.length) :
    Calls Tryd.prog 3 #[.slice ao xs.length c] w fun e w' => e = .returned (.bool true) ∧ Below w.heap.size w w' := by
  have hi : (200 : Int) < (xs.length : Int) := by omega
  have HK := Lib.hid (known_any ht)
  clear ht
  go_enter Tryd.func3, Tryd.ntmps3
  go_wp2_with fail
  refine HK.out.mono ?_
  rintro e w0 ⟨rfl, hB0⟩
  go_wp2_with fail
  go_ret
  exact ⟨rfl, hB0⟩
set_option maxRecDepth 100000 in
set_option maxHeartbeats 2000000 in
theorem crcl_short {w : World} {ao : Option Addr} {c : Nat} {xs : List UInt8} (h : Bs w (.slice ao xs.length c) xs) (ht : Tables w S0 K0) (hL : xs.length ≤ 200) :
    Calls Tryd.prog 3 #[.slice ao xs.length c] w fun e w' => e = .returned (.bool true) ∧ Below w.heap.size w w' := by
  have hi : (xs.length : Int) ≤ 200 := by omega
  have HK := Lib.hid (known_any ht)
  have HB := Lib.hid h
  clear ht h
  go_enter Tryd.func3, Tryd.ntmps3
  go_wp2_with fail
  refine HK.out.mono ?_
  rintro e w0 ⟨rfl, hB0⟩
  have crcA : ∀ W g, Below w0.heap.size w0 W → W.heap.size = g → Calls Tryd.prog 16 #[.slice (some ⟨g, 0, none⟩) 1 1] (W.alloc (.cells #[.slice ao xs.length c] 22)) fun e w' => e = .returned (.int .u32 ((crcOf xs : Nat) : Int)) ∧ (W.alloc (.cells #[.slice ao xs.length c] 22)) = w' := by
    rintro W g hW rfl
    have b1 : Below w0.heap.size w0 (W.alloc (.cells #[.slice ao xs.length c] 22)) := hW.alloc hW.size _
    have o := crc_any (Pt.one (heap_alloc_new W _) (HB.out.below (hB0.trans (b1.mono hB0.size)) (Nat.le_refl _))) (by simp) (by simp; omega)
    rwa [show bytesOf [(Value.slice ao xs.length c, xs)] = xs by simp [bytesOf]] at o
  have refA : ∀ W, Below w0.heap.size w0 W → Calls Tryd.prog 17 #[.string (str xs)] W fun e w' => e = .returned (.int .u32 ((crcOf xs : Nat) : Int)) ∧ Below w0.heap.size w0 w' := fun W hW =>
    (refCRC_any W (str xs) (by rw [str_size]; omega)).mono fun _ _ h' => ⟨by rw [h'.1, str_list, crcRef_eq], hW.trans (h'.2.mono hW.size)⟩
  have cvA : ∀ W, Below w0.heap.size w0 W → (convert 22 9 (.slice ao xs.length c)).run Tryd.prog W = .ok (.string (str xs)) W := fun W hW => (HB.out.below (hB0.trans (hW.mono hB0.size)) (Nat.le_refl _)).str
  have d0 : Below w0.heap.size w0 w0.drew := Below.refl w0.heap.size w0 |>.drew
  have cv1 := cvA _ d0
  have cv2 := fun o => cvA (w0.alloc o).drew (((Below.refl w0.heap.size w0).alloc (Nat.le_refl _) o).drew)
  have CRCA := Lib.hid crcA
  have REFA := Lib.hid refA
  have CVA := Lib.hid cvA
  clear crcA refA cvA HK HB
  generalize crcOf xs = q at *
  go_wp2_with fail
  go_region_with (first
    | (go_at_call 16; refine (CRCA.out _ _ d0 (by simp)).mono ?_; rintro e w' ⟨rfl, rfl⟩)
    | (go_at_call 17; refine (REFA.out _ (d0.alloc (by simp) _)).mono ?_; rintro e w' ⟨rfl, hb⟩)
    | (go_at_call 17; refine (REFA.out _ d0).mono ?_; rintro e w' ⟨rfl, hb⟩))
  all_goals (go_wp2_with fail; go_ret; exact ⟨rfl, hB0.trans (hb.mono hB0.size)⟩)
theorem crcl_any {w : World} {ao : Option Addr} {c : Nat} {xs : List UInt8} (h : Bs w (.slice ao xs.length c) xs) (ht : Tables w S0 K0) :
    Calls Tryd.prog 3 #[.slice ao xs.length c] w fun e w' => e = .returned (.bool true) ∧ Below w.heap.size w w' := by
  by_cases hL : 200 < xs.length
  · exact crcl_long ht hL
  · exact crcl_short h ht (by omega)
end Go.Proofs.YtejbookaflnpeaaDoor
