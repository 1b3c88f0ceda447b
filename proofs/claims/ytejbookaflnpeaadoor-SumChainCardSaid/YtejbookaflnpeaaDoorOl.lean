/- The law SumOf: its walk. -/
import Derived.Test.YtejbookaflnpeaaDoorRo
import Derived.Test.YtejbookaflnpeaaDoorCl
import Derived.Test.YtejbookaflnpeaaDoorOf
import Derived.Test.YtejbookaflnpeaaDoorDa
namespace Go.Proofs.YtejbookaflnpeaaDoor
open Go Go.RowKit
set_option linter.unusedVariables false

set_option maxRecDepth 100000 in
set_option maxHeartbeats 1000000 in
theorem ofl_long {w : World} {ao : Option Addr} {c : Nat} {xs : List UInt8} (ht : Tables w S0 K0) (hL : 300 < xs.length) :
    Calls Tryd.prog 4 #[.slice ao xs.length c] w fun e w' => e = .returned (.bool true) ∧ Below w.heap.size w w' := by
  have hi : (300 : Int) < (xs.length : Int) := by omega
  have HK := Lib.hid (known_any ht)
  clear ht
  go_enter Tryd.func4, Tryd.ntmps4
  go_wp2_with fail
  refine HK.out.mono ?_
  rintro e w0 ⟨rfl, hB0⟩
  go_wp2_with fail
  go_ret
  exact ⟨rfl, hB0⟩
set_option maxRecDepth 100000 in
set_option maxHeartbeats 2000000 in
theorem ofl_short {w : World} {ao : Option Addr} {c : Nat} {xs : List UInt8} (h : Bs w (.slice ao xs.length c) xs) (ht : Tables w S0 K0) (hL : xs.length ≤ 300) :
    Calls Tryd.prog 4 #[.slice ao xs.length c] w fun e w' => e = .returned (.bool true) ∧ Below w.heap.size w w' := by
  have hi : (xs.length : Int) ≤ 300 := by omega
  have HK := Lib.hid (known_any ht)
  have HT := Lib.hid ht
  have HB := Lib.hid h
  clear ht h
  go_enter Tryd.func4, Tryd.ntmps4
  go_wp2_with fail
  refine HK.out.mono ?_
  rintro e w0 ⟨rfl, hB0⟩
  obtain ⟨D, hD⟩ : ∃ D, D = shaR S0 K0 xs := ⟨_, rfl⟩
  have hD2 : shaL S0 K0 xs = D := by rw [hD]; exact sha_R S0 K0 rfl S0_lt xs
  have hDl : D.length = 32 := by rw [← hD2]; exact shaL_length _ _ _
  have ofA : ∀ W g, Below w0.heap.size w0 W → W.heap.size = g → Calls Tryd.prog 18 #[.slice (some ⟨g, 0, none⟩) 1 1] (W.alloc (.cells #[.slice ao xs.length c] 22)) fun e w' => e = .returned (.agg (bvs D).toArray) ∧ Below w0.heap.size w0 w' := by
    rintro W g hW rfl
    have b1 : Below w0.heap.size w0 (W.alloc (.cells #[.slice ao xs.length c] 22)) := hW.alloc hW.size _
    have bw := hB0.trans (b1.mono hB0.size)
    have o := of_any (Pt.one (heap_alloc_new W _) (HB.out.below bw (Nat.le_refl _))) (HT.out.below bw (Nat.le_refl _)) (by simp [bytesOf]; omega) (by simp)
    rw [show bytesOf [(Value.slice ao xs.length c, xs)] = xs by simp [bytesOf], hD2] at o
    exact o.mono fun _ _ h' => ⟨h'.1, b1.trans (h'.2.mono b1.size)⟩
  have refA : ∀ W, Below w0.heap.size w0 W → Calls Tryd.prog 19 #[.string (str xs)] W fun e w' => e = .returned (.agg (bvs D).toArray) ∧ Below w0.heap.size w0 w' := fun W hW =>
    (refOf_any W (str xs) (by rw [str_size]; omega)).mono fun _ _ h' => ⟨by rw [h'.1, str_list, ← hD], hW.trans (h'.2.mono hW.size)⟩
  have cvA : ∀ W, Below w0.heap.size w0 W → (convert 22 9 (.slice ao xs.length c)).run Tryd.prog W = .ok (.string (str xs)) W := fun W hW => (HB.out.below (hB0.trans (hW.mono hB0.size)) (Nat.le_refl _)).str
  have ee : ∀ W, (binOp .eql 29 (.agg (bvs D).toArray) (.agg (bvs D).toArray)).run Tryd.prog W = .ok (.bool true) W := fun W => by
    rw [eql_sum D D hDl hDl]; simp
  have d0 : Below w0.heap.size w0 w0.drew := Below.refl w0.heap.size w0 |>.drew
  have cv1 := cvA _ d0
  have cv2 := fun o => cvA (w0.alloc o).drew (((Below.refl w0.heap.size w0).alloc (Nat.le_refl _) o).drew)
  have OFA := Lib.hid ofA
  have REFA := Lib.hid refA
  have CVA := Lib.hid cvA
  clear ofA refA cvA HK HB HT hD hD2 hDl
  generalize (bvs D).toArray = DD at *
  go_wp2_with fail
  go_region_with (first
    | (go_at_call 18; refine (OFA.out _ _ d0 (by simp)).mono ?_; rintro e w' ⟨rfl, hb⟩; have cv3 := CVA.out _ hb)
    | (go_at_call 19; refine (REFA.out _ hb).mono ?_; rintro e w'' ⟨rfl, hb2⟩))
  all_goals (go_wp2_with fail; go_ret; exact ⟨rfl, hB0.trans (hb2.mono hB0.size)⟩)
theorem ofl_any {w : World} {ao : Option Addr} {c : Nat} {xs : List UInt8} (h : Bs w (.slice ao xs.length c) xs) (ht : Tables w S0 K0) :
    Calls Tryd.prog 4 #[.slice ao xs.length c] w fun e w' => e = .returned (.bool true) ∧ Below w.heap.size w w' := by
  by_cases hL : 300 < xs.length
  · exact ofl_long ht hL
  · exact ofl_short h ht (by omega)
end Go.Proofs.YtejbookaflnpeaaDoor
