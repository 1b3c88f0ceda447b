/- The head of cron's statements. -/
import Derived.Test.YthebkckcnmjehaaDoorCl
import Derived.Test.YthebkckcnmjehaaDoorCn
namespace Go.Proofs.YthebkckcnmjehaaDoor
open Go Go.RowKit
set_option linter.unusedVariables false
set_option linter.unusedSimpArgs false
/-- The same, for the kernel. -/
def apN : Nat → Nat → Nat → Nat → List Nat
  | 0, _, _, _ => []
  | f + 1, t, s, n => if n ≤ t then n :: apN f t s (n + s) else []
theorem ap_eq {s : Nat} (hs : 0 < s) (t : Nat) : ∀ (f n : Nat), t + 1 ≤ n + f → ap t s n = apN f t s n
  | 0, n, h => ap_stop (by omega)
  | f + 1, n, h => by
    rw [apN]
    by_cases hn : n ≤ t
    · rw [if_pos hn, ap_go hn hs, ap_eq hs t f (n + s) (by omega)]
    · rw [if_neg hn, ap_stop hn]
def ppN (l : List UInt8) (lo hi : Nat) : Int × List Nat :=
  if (cutL 47 l).2.2 = true ∧ psE (cutL 47 l).2.1 ≠ 0 then (psE (cutL 47 l).2.1, [])
  else match pb (cutL 47 l).1 lo hi (cutL 47 l).2.2 with
    | none => (8, [])
    | some p => if p.1 < lo ∨ hi < p.2 ∨ p.2 < p.1 then (1, []) else (0, apN 64 p.2 (if (cutL 47 l).2.2 = true then psV (cutL 47 l).2.1 else 1) p.1)
theorem ppN_eq (l : List UInt8) (lo hi : Nat) (hhi : hi ≤ 63) : ppR l lo hi = ppN l lo hi := by
  unfold ppR ppN
  by_cases h1 : (cutL 47 l).2.2 = true ∧ psE (cutL 47 l).2.1 ≠ 0
  · rw [if_pos h1, if_pos h1]
  · rw [if_neg h1, if_neg h1]
    cases hp : pb (cutL 47 l).1 lo hi (cutL 47 l).2.2 with
    | none => rfl
    | some p =>
      dsimp only
      by_cases h2 : p.1 < lo ∨ hi < p.2 ∨ p.2 < p.1
      · rw [if_pos h2, if_pos h2]
      · rw [if_neg h2, if_neg h2]
        have hs : 0 < (if (cutL 47 l).2.2 = true then psV (cutL 47 l).2.1 else 1) := by
          by_cases h3 : (cutL 47 l).2.2 = true
          · rw [if_pos h3]
            have h4 : psE (cutL 47 l).2.1 = 0 := by
              by_cases h5 : psE (cutL 47 l).2.1 = 0
              · exact h5
              · exact absurd ⟨h3, h5⟩ h1
            unfold psE at h4
            unfold psV
            split at h4
            · cases h4
            · rename_i n hn
              rw [hn, Option.getD_some]
              split at h4
              · cases h4
              · omega
          · rw [if_neg h3]; decide
        rw [ap_eq hs p.2 64 p.1 (by omega)]
def pfN : List (List UInt8) → Nat → Nat → Int × List Nat
  | [], _, _ => (0, [])
  | p :: ps, lo, hi => if (ppN p lo hi).1 ≠ 0 then ((ppN p lo hi).1, []) else if (pfN ps lo hi).1 ≠ 0 then ((pfN ps lo hi).1, []) else (0, (ppN p lo hi).2 ++ (pfN ps lo hi).2)
theorem pfN_eq (lo hi : Nat) (hhi : hi ≤ 63) : ∀ P, pfR P lo hi = pfN P lo hi
  | [] => rfl
  | p :: ps => by rw [pfR, pfN, ppN_eq p lo hi hhi, pfN_eq lo hi hhi ps]
def pfsN : List (List UInt8) → List (Nat × Nat) → Int × List (List Nat × Bool)
  | p :: ps, r :: rs => if (pfN (splitL 44 p) r.1 r.2).1 ≠ 0 then ((pfN (splitL 44 p) r.1 r.2).1, []) else if (pfsN ps rs).1 ≠ 0 then ((pfsN ps rs).1, []) else (0, ((pfN (splitL 44 p) r.1 r.2).2, decide (p = [42])) :: (pfsN ps rs).2)
  | _, _ => (0, [])
theorem pfsN_eq : ∀ (P : List (List UInt8)) (R : List (Nat × Nat)), (∀ r ∈ R, r.2 ≤ 63) → pfs P R = pfsN P R
  | [], R, _ => by cases R <;> rfl
  | p :: ps, [], _ => rfl
  | p :: ps, r :: rs, h => by
    rw [pfs, pfsN, pfsN_eq ps rs (fun r hr => h r (by simp [hr]))]
    unfold fieldR
    rw [pfN_eq r.1 r.2 (h r (by simp)) (splitL 44 p)]
def parseN (l : List UInt8) : Int × List (List Nat × Bool) :=
  if 128 < l.length then (2, []) else if (splitL 32 l).length ≠ 5 then (40, []) else pfsN (splitL 32 l) reachL
theorem parseN_eq (l : List UInt8) : parseM l = parseN l := by
  unfold parseM parseN
  rw [pfsN_eq _ _ (by decide)]
def nextN (D : List (List Nat × Bool)) : Nat → Nat → Nat → Option Nat
  | 0, _, _ => none
  | f + 1, last, m => if last < m then none else
    if fitsDayN D (refN m) = false then nextN D f last (m + (1440 - m % 1440))
    else if decide ((refN m).h ∈ (D.getD 1 ([], false)).1) = false then nextN D f last (m + (60 - m % 60))
    else if decide ((refN m).mi ∈ (D.getD 0 ([], false)).1) = false then nextN D f last (m + 1)
    else some m
theorem nextN_eq (D : List (List Nat × Bool)) (last : Nat) : ∀ (f m : Nat), nextF D f last m = nextN D f last m
  | 0, m => rfl
  | f + 1, m => by rw [nextF, nextN, refN_eq, nextN_eq D last f, nextN_eq D last f, nextN_eq D last f]
def findsL : List UInt8 := [51, 48, 32, 50, 32, 42, 32, 42, 32, 42]
def findsD : List (List Nat × Bool) := [([30], false), ([2], false), ([1, 2, 3, 4, 5, 6, 7, 8, 9, 10, 11, 12, 13, 14, 15, 16, 17, 18, 19, 20, 21, 22, 23, 24, 25, 26, 27, 28, 29, 30, 31], true), ([1, 2, 3, 4, 5, 6, 7, 8, 9, 10, 11, 12], true), ([0, 1, 2, 3, 4, 5, 6], true)]
theorem finds_parse : parseM findsL = (0, findsD) := by rw [parseN_eq]; decide +kernel
theorem finds_next0 : nextF findsD 527041 527040 1 = some 150 := by rw [nextN_eq]; decide +kernel
theorem finds_next1 : nextF findsD 527041 527190 151 = some 1590 := by rw [nextN_eq]; decide +kernel
theorem finds_date : dateN 150 = ⟨2000, 1, 1, 2, 30, 6⟩ := by rw [← refN_eq]; decide +kernel
theorem finds_fits : fitsN findsD ⟨2000, 1, 1, 2, 30, 6⟩ = true := by decide +kernel
theorem nextV_ok {D : List (List Nat × Bool)} {t : Int} {m : Nat} (h1 : ¬ (t < -1 ∨ 4294440255 < t)) (h2 : nextF D 527041 ((t + 527040).toNat) ((t + 1).toNat) = some m) : nextV D t = .tuple #[.int .i64 (m : Int), .int .i64 0] := by
  unfold nextV
  rw [if_neg h1, h2]
theorem parse_ok {l : List UInt8} {D : List (List Nat × Bool)} (h : parseM l = (0, D)) (hl : l.length < 4294967281) (w : World) (hT : CT w) : Calls Tryd.prog 11 #[.string (str l)] w fun e w' =>
    Below w.heap.size w w' ∧ ∃ g, e = .returned (.tuple #[.pointer (some ⟨g, 0, none⟩), .int .i64 0]) ∧ w.heap.size ≤ g ∧ SpecAt w' g l D := by
  refine (parse_any l hl w hT).mono ?_
  rintro e w' ⟨h1, h2⟩
  rw [h] at h2
  exact ⟨h1, by simpa using h2⟩
theorem parse_bad {l : List UInt8} {v : Int} (h : (parseM l).1 = v) (h0 : v ≠ 0) (hl : l.length < 4294967281) (w : World) (hT : CT w) : Calls Tryd.prog 11 #[.string (str l)] w fun e w' =>
    Below w.heap.size w w' ∧ e = .returned (.tuple #[.pointer none, .int .i64 v]) := by
  refine (parse_any l hl w hT).mono ?_
  rintro e w' ⟨h1, h2⟩
  rw [h, if_neg h0] at h2
  exact ⟨h1, h2⟩
set_option maxHeartbeats 4000000 in
theorem finds_any (w : World) (hT : CT w) : Calls Tryd.prog 10 #[] w fun e w' => e = .returned (.bool true) ∧ Below w.heap.size w w' := by
  have pc := parse_ok finds_parse (by decide) w hT
  have hS : str findsL = ⟨#[51, 48, 32, 50, 32, 42, 32, 42, 32, 42]⟩ := rfl
  rw [hS] at pc
  have PC := Lib.hid pc
  have HT := Lib.hid hT
  clear pc hS hT
  go_enter Tryd.func10, Tryd.ntmps10
  go_wp2_with fail
  refine PC.out.mono ?_
  rintro e w1 ⟨hb1, g, rfl, hg, hs1⟩
  have n0 := next_any g findsL findsD 0 (by decide) w1 (HT.out.below hb1 (Nat.le_refl _)) hs1
  rw [nextV_ok (m := 150) (by decide) finds_next0] at n0
  rw [show ((150 : Nat) : Int) = 150 from rfl] at n0
  have N0 := Lib.hid n0
  have HB1 := Lib.hid hb1
  have HS1 := Lib.hid hs1
  clear n0 hb1 hs1
  go_wp2_with fail
  refine N0.out.mono ?_
  rintro e w2 ⟨rfl, hb2⟩
  have HB2 := Lib.hid (HB1.out.trans (hb2.mono HB1.out.size))
  have HS2 := Lib.hid (HS1.out.below hb2)
  have n1 := next_any g findsL findsD 150 (by decide) w2 (HT.out.below HB2.out (Nat.le_refl _)) HS2.out
  rw [nextV_ok (m := 1590) (by decide) finds_next1] at n1
  rw [show ((1590 : Nat) : Int) = 1590 from rfl] at n1
  have N1 := Lib.hid n1
  clear n1 hb2
  go_wp2_with fail
  refine N1.out.mono ?_
  rintro e w3 ⟨rfl, hb3⟩
  have HB3 := Lib.hid (HB2.out.trans (hb3.mono HB2.out.size))
  have HS3 := Lib.hid (HS2.out.below hb3)
  have dc := dateOf_any 150 (by decide) w3 (HT.out.below HB3.out (Nat.le_refl _))
  rw [show dateL 150 = DateD.list ⟨2000, 1, 1, 2, 30, 6⟩ by unfold dateL; rw [if_neg (by decide)]; rw [show (150 : Int).toNat = 150 from rfl, finds_date], show dateE 150 = 0 from rfl] at dc
  have hLL : (DateD.list ⟨2000, 1, 1, 2, 30, 6⟩).toArray = #[.int .i64 2000, .int .i64 1, .int .i64 1, .int .i64 2, .int .i64 30, .int .i64 6] := rfl
  have DC := Lib.hid dc
  clear dc hb3
  go_wp2_with fail
  refine DC.out.mono ?_
  rintro e w4 ⟨rfl, hb4⟩
  have HB4 := Lib.hid (HB3.out.trans (hb4.mono HB3.out.size))
  have HS4 := Lib.hid (HS3.out.below hb4)
  obtain ⟨w5, hw5⟩ : ∃ w5, w5 = w4.alloc (.cells (DateD.list ⟨2000, 1, 1, 2, 30, 6⟩).toArray 32) := ⟨_, rfl⟩
  obtain ⟨k, hk⟩ : ∃ k, k = w4.heap.size := ⟨_, rfl⟩
  have hb5 : Below w4.heap.size w4 w5 := by rw [hw5]; exact (Below.refl _ _).alloc (Nat.le_refl _) _
  have nk : w5.heap[k]? = some (.cells (DateD.list ⟨2000, 1, 1, 2, 30, 6⟩).toArray 32 (0, 0)) := by rw [hw5, hk]; exact heap_alloc_new _ _
  have HB5 := Lib.hid (HB4.out.trans (hb5.mono HB4.out.size))
  have HS5 := Lib.hid (HS4.out.below hb5)
  have NK := Lib.hid nk
  have HW5 := Lib.hid hw5
  have HK := Lib.hid hk
  have HLL := Lib.hid hLL
  have fc := fits_any g findsL findsD ⟨2000, 1, 1, 2, 30, 6⟩ ⟨by decide, by decide, by decide, by decide, by decide⟩ w5 HS5.out
  rw [finds_fits] at fc
  have FC := Lib.hid fc
  clear hb4 hw5 hk hb5 nk hLL fc
  have SZX := Lib.hid (show (Tryd.prog.info? 32).map (·.size) = some (DateD.list ⟨2000, 1, 1, 2, 30, 6⟩).toArray.size by kernel_rfl)
  have S66 := Lib.hid (show 6 = (DateD.list ⟨2000, 1, 1, 2, 30, 6⟩).toArray.size from rfl)
  have SO := Lib.hid (DateD.one ⟨2000, 1, 1, 2, 30, 6⟩)
  generalize (DateD.list ⟨2000, 1, 1, 2, 30, 6⟩).toArray = DL at *
  go_upto_region 7 with (with_reducible show wpList _ _ _ _ _ _; refine wpList_store_newW rfl 32 (.tmp 7) (.tmp 31) rfl 32 _ DL rfl rfl SZX.out (by with_unfolding_all exact S66.out) SO.out ?_; rw [← HW5.out, ← HK.out])
  have KD := Lib.hid (show ∀ j v, DL.toList[j]? = some v → w5.cell? ((⟨k, 0, none⟩ : Addr).add j) = some v from fun j v hj => by
    rw [Addr.add_mid, Nat.zero_add, cell_of_rowW w5 k j _ _ _ NK.out]
    simpa using hj)
  have SZL := Lib.hid (show (Tryd.prog.info? 32).map (·.size) = some DL.toList.length by rw [SZX.out]; simp)
  rw [HLL.out] at FC
  go_wp2_with (first
    | (with_reducible show wpList _ _ _ _ _ _; refine wpList_loadWanted (by with_unfolding_all rfl) 32 (.tmp 7) rfl ⟨k, 0, none⟩ (by with_unfolding_all rfl) DL.toList _ KD.out Tryd.underlying32 rfl SZL.out ?_; rw [show DL.toList.toArray = #[.int .i64 2000, .int .i64 1, .int .i64 1, .int .i64 2, .int .i64 30, .int .i64 6] from HLL.out])
    | (with_reducible show wpList _ _ _ _ _ _; refine wpList_runWanted (by with_unfolding_all rfl) (.bool true) (exec_date rfl 2000 1 1 2 30 6 2000 1 1 2 30 6 (by with_unfolding_all rfl) (by with_unfolding_all rfl) _) ?_))
  refine FC.out.mono ?_
  rintro e w6 ⟨rfl, hb6⟩
  have HB6 := Lib.hid (HB5.out.trans (hb6.mono HB5.out.size))
  have tc := text_any g findsL findsD w6 (HS5.out.below hb6)
  rw [show str findsL = ⟨#[51, 48, 32, 50, 32, 42, 32, 42, 32, 42]⟩ from rfl] at tc
  have TC := Lib.hid tc
  clear hb6 tc
  go_wp2_with fail
  refine TC.out.mono ?_
  rintro e w7 ⟨rfl, h⟩
  have h2 := h.symm
  subst h2
  go_wp2_with fail
  go_ret
  exact ⟨rfl, HB6.out⟩
end Go.Proofs.YthebkckcnmjehaaDoor
