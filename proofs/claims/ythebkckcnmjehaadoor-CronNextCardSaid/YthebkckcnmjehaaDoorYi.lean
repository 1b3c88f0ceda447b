/- CronNext's walk. -/
import Derived.Test.YthebkckcnmjehaaDoorYg
import Derived.Test.YthebkckcnmjehaaDoorYk
namespace Go.Proofs.YthebkckcnmjehaaDoor
open Go Go.RowKit
set_option linter.unusedVariables false
set_option linter.unusedSimpArgs false
theorem nextV_form (D : List (List Nat × Bool)) (t : Int) : ∃ n g : Int, nextV D t = .tuple #[.int .i64 n, .int .i64 g] := by
  unfold nextV
  split
  · exact ⟨_, _, rfl⟩
  · split
    · exact ⟨_, _, rfl⟩
    · exact ⟨_, _, rfl⟩
set_option maxHeartbeats 8000000 in
set_option maxRecDepth 100000 in
theorem cronNext_any (s : List UInt8) (t : Int) (ht : -9223372036854775808 ≤ t ∧ t ≤ 9223372036854775807) (hs : s.length ≤ 9223372036854775807) (w : World) (hT : CT w) :
    Calls Tryd.prog 5 #[.string (str s), .int .i64 t] w fun e w' => e = .returned (.bool true) ∧ Below w.heap.size w w' := by
  have FA := Lib.hid (finds_any w hT)
  have HT := Lib.hid hT
  have hsa := str_size s
  obtain ⟨SA, hSA⟩ : ∃ SA, SA = str s := ⟨_, rfl⟩
  rw [← hSA] at hsa ⊢
  clear hT
  by_cases hl : 128 < s.length
  · have d1 : (128 : Int) < (SA.size : Int) := by omega
    clear hsa hSA
    go_enter Tryd.func5, Tryd.ntmps5
    go_wp2_with fail
    refine FA.out.mono ?_
    rintro e w1 ⟨rfl, hb1⟩
    have HB1 := Lib.hid hb1
    clear hb1
    go_wp2_with fail
    go_ret
    exact ⟨rfl, HB1.out⟩
  have d1 : ¬ (128 : Int) < (SA.size : Int) := by omega
  have PA := fun W h => parse_any s (by omega) W h
  have PR := fun W => refParse_any s (by omega) W
  rw [← hSA] at PA PR
  obtain ⟨X, hX⟩ : ∃ X, X = parseM s := ⟨_, rfl⟩
  rw [← hX] at PA PR
  have HPA := Lib.hid PA
  have HPR := Lib.hid PR
  clear hsa hSA PA PR hX hl
  obtain ⟨ec, D⟩ := X
  go_enter Tryd.func5, Tryd.ntmps5
  go_wp2_with fail
  refine FA.out.mono ?_
  rintro e w1 ⟨rfl, hb1⟩
  have HB1 := Lib.hid hb1
  clear hb1
  go_wp2_with fail
  refine (HPA.out w1 (HT.out.below HB1.out (Nat.le_refl _))).mono ?_
  rintro e w2 ⟨hb2, hp⟩
  have HB2 := Lib.hid (HB1.out.trans (hb2.mono HB1.out.size))
  have RP := HPR.out w2
  clear hb2
  by_cases he : ec = 0
  · subst he
    rw [if_pos rfl] at hp
    obtain ⟨g, rfl, hg, hS⟩ := hp
    have HS := Lib.hid hS
    have HRP := Lib.hid RP
    clear hS RP hg
    go_wp2_with fail
    refine HRP.out.mono ?_
    rintro e w3 ⟨hb3, hp⟩
    rw [if_pos rfl] at hp
    obtain ⟨gF, cp, rfl, hF⟩ := hp
    have HB3 := Lib.hid hb3
    have HF := Lib.hid hF
    have NX := next_any g s D t ht w3 (HT.out.below (HB2.out.trans (hb3.mono HB2.out.size)) (Nat.le_refl _)) (HS.out.below hb3)
    have RN := fun W (h : FldAt W gF D) => refNext_any gF cp D t ht W h
    obtain ⟨n, gg, hV⟩ := nextV_form D t
    rw [hV] at NX
    simp only [hV] at RN
    have HNX := Lib.hid NX
    have HRN := Lib.hid RN
    clear hb3 hF NX RN hV
    go_wp2_with fail
    refine HNX.out.mono ?_
    rintro e w4 ⟨rfl, hb4⟩
    have HB4 := Lib.hid hb4
    clear hb4
    go_wp2_with fail
    refine (HRN.out w4 (HF.out.below HB4.out (Nat.le_refl _))).mono ?_
    rintro e w5 ⟨rfl, hb5⟩
    have HB5 := Lib.hid (HB2.out.trans ((HB3.out.trans ((HB4.out.trans (hb5.mono HB4.out.size)).mono HB3.out.size)).mono HB2.out.size))
    clear hb5
    go_wp2_with fail
    go_ret
    exact ⟨rfl, HB5.out⟩
  · rw [if_neg he] at hp
    subst hp
    have HRP := Lib.hid RP
    clear RP
    go_wp2_with fail
    refine HRP.out.mono ?_
    rintro e w3 ⟨hb3, hp⟩
    rw [if_neg he] at hp
    subst hp
    have HB3 := Lib.hid (HB2.out.trans (hb3.mono HB2.out.size))
    clear hb3
    go_wp2_with fail
    go_ret
    exact ⟨rfl, HB3.out⟩
end Go.Proofs.YthebkckcnmjehaaDoor
