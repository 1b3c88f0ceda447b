/- The reference's part. -/
import Derived.Test.YthebkckcnmjehaaDoorYa
import Derived.Deep.CutBlock
import Derived.Deep.DeepCutAuto
namespace Go.Proofs.YthebkckcnmjehaaDoor
open Go Go.RowKit
set_option linter.unusedVariables false
set_option linter.unusedSimpArgs false
def numVs (L : List Nat) : List Value := L.map fun (x : Nat) => Value.int .i64 (x : Int)
def PartPost (w : World) (R : Int × List Nat) (e : Ending) (w' : World) : Prop := ∃ ao cp, e = .returned (.tuple #[.slice ao R.2.length cp, .int .i64 R.1]) ∧ Blk 3 w' ao (numVs R.2) ∧ Below w.heap.size w w'
theorem Tryd.infoInt : (Tryd.prog.info? 3).map (fun i => (i.zero, i.size, i.bytes)) = some (some (.int .i64 0), 1, 8) := by kernel_rfl
theorem PartPost.bad {w w' : World} {A : Int × List Nat} {n : Int} (hA : A = (n, [])) (hb : Below w.heap.size w w') : PartPost w A (.returned (.tuple #[.slice none 0 0, .int .i64 n])) w' := by
  rw [hA]
  exact ⟨none, 0, rfl, .inl rfl, hb⟩
def ptRel (w : World) (t s f : Nat) (out n : Value) (wr : World) : Prop :=
  ∃ (k q : Nat) (L : List Nat), n = .int .i64 (k : Int) ∧ ApSt t s f k q L ∧ f ≤ k ∧ k ≤ t + 1 ∧ L.length ≤ k ∧ wr.ownsRow w.heap.size 3 1 out L.length (numVs L) ∧ Below w.heap.size w wr
def ptCut1 (w : World) (rb : List UInt8) (st : Bool) (s : Value) (wx : World) : Prop := ∃ q : Nat, s = .int .i64 (q : Int) ∧ 0 < q ∧ q ≤ 99 ∧ q = (if st = true then psV rb else 1) ∧ ¬ (st = true ∧ psE rb ≠ 0) ∧ Below w.heap.size w wx
def ptCut2 (w : World) (o : Option (Nat × Nat)) (f t : Value) (wx : World) : Prop := ∃ a b : Nat, o = some (a, b) ∧ f = .int .i64 (a : Int) ∧ t = .int .i64 (b : Int) ∧ Below w.heap.size w wx
set_option maxHeartbeats 4000000 in
set_option maxRecDepth 100000 in
theorem refPart_any (k : Nat) (hk : k < 5) (l : List UInt8) (hl : l.length ≤ 1000000) (w : World) : Calls Tryd.prog 24 #[.int .i64 (k : Int), .string (str l)] w (PartPost w (ppR l (loK k) (hiK k))) := by
  obtain ⟨A, hA⟩ : ∃ A, A = ppR l (loK k) (hiK k) := ⟨_, rfl⟩
  rw [← hA]
  unfold ppR at hA
  have hlo : loK k ≤ 1 := by unfold loK; split <;> omega
  have hhi : hiK k ≤ 59 := by unfold hiK; split <;> (try split) <;> (try split) <;> (try split) <;> omega
  have hle := fun W => refLeast_any k hk W
  have hmo := fun W => refMost_any k hk W
  obtain ⟨lo, hlo2⟩ : ∃ lo, lo = loK k := ⟨_, rfl⟩
  obtain ⟨hi, hhi2⟩ : ∃ hi, hi = hiK k := ⟨_, rfl⟩
  rw [← hlo2] at hA hlo hle
  rw [← hhi2] at hA hhi hmo
  have hcl := cutL_len 47 l
  have F := refFirst_any 47 l hl
  rw [show ((47 : UInt8).toNat : Int) = 47 from rfl] at F
  obtain ⟨R, hcc⟩ : ∃ R, R = cutL 47 l := ⟨_, rfl⟩
  rw [← hcc] at F hcl hA
  obtain ⟨ra, rb, st⟩ := R
  dsimp only at F hcl hA
  have hcl2 := cutL_len 45 ra
  have F2 := refFirst_any 45 ra (by omega)
  rw [show ((45 : UInt8).toNat : Int) = 45 from rfl] at F2
  have hpb : pb ra lo hi st = if ra = [42] then some (lo, hi) else match pn (cutL 45 ra).1 with | none => none | some f => if (cutL 45 ra).2.2 = true then (match pn (cutL 45 ra).2.1 with | none => none | some t => some (f, t)) else if st = true then some (f, hi) else some (f, f) := rfl
  obtain ⟨R2, hcc2⟩ : ∃ R, R = cutL 45 ra := ⟨_, rfl⟩
  rw [← hcc2] at F2 hcl2 hpb
  obtain ⟨sa, sb, rf⟩ := R2
  dsimp only at F2 hcl2 hpb
  have NE := fun W => refNumber_any rb (by omega) W
  have NA := fun W => refNumber_any sa (by omega) W
  have NB := fun W => refNumber_any sb (by omega) W
  have hSA0 : ∀ h : ¬ ra = [42], (!(str ra).toList == [42]) = true := fun h => by
    have h2 : ((str ra).toList == [42]) = false := by
      rw [ByteArray.toList_eq, beq_eq_false_iff_ne, str_data]
      exact h
    rw [h2]
    rfl
  have hSA1 : ra = [42] → (!(str ra).toList == [42]) = false := fun h => by
    rw [h, ByteArray.toList_eq, str_data]
    rfl
  obtain ⟨S, hSS⟩ : ∃ S, S = str l := ⟨_, rfl⟩
  obtain ⟨Ra, hRa⟩ : ∃ S, S = str ra := ⟨_, rfl⟩
  obtain ⟨Rb, hRb⟩ : ∃ S, S = str rb := ⟨_, rfl⟩
  obtain ⟨Sa, hSa⟩ : ∃ S, S = str sa := ⟨_, rfl⟩
  obtain ⟨Sb, hSb⟩ : ∃ S, S = str sb := ⟨_, rfl⟩
  rw [← hRa, ← hRb, ← hSS] at F
  rw [← hRa, ← hSa, ← hSb] at F2
  rw [← hRa] at hSA0 hSA1
  rw [← hRb] at NE
  rw [← hSa] at NA
  rw [← hSb] at NB
  rw [← hSS]
  have HF := Lib.hid F
  have HF2 := Lib.hid F2
  have HNE := Lib.hid NE
  have HNA := Lib.hid NA
  have HNB := Lib.hid NB
  have HLE := Lib.hid hle
  have HMO := Lib.hid hmo
  have HA := Lib.hid hA
  have HPB := Lib.hid hpb
  have HS0 := Lib.hid hSA0
  have HS1 := Lib.hid hSA1
  have hkb : (k : Int) < 5 := by omega
  clear F F2 NE NA NB hle hmo hA hpb hSA0 hSA1 hSS hRa hRb hSa hSb hcc hcc2 hlo2 hhi2 hcl hcl2 hk
  go_enter Tryd.func24, Tryd.ntmps24
  go_wp2_with fail
  refine (HF.out _).mono ?_
  rintro e w1 ⟨rfl, hb1⟩
  have HB1 := Lib.hid hb1
  clear hb1
  go_upto_if 23 with (fail)
  go_cut [9] (fun s wx => ptCut1 w rb st s wx)
  case first =>
    cases st with
    | false =>
      go_wp2_with fail
      go_meet
      all_goals exact ⟨1, rfl, by decide, by decide, rfl, (fun h => by cases h.1), HB1.out⟩
    | true =>
      cases hp : pn rb with
      | none =>
        have C := HNE.out w1
        rw [hp] at C
        have CC := Lib.hid C
        have hA := HA.out
        rw [if_pos ⟨rfl, by unfold psE; rw [hp]; decide⟩, show psE rb = 8 by unfold psE; rw [hp]] at hA
        have HA2 := Lib.hid hA
        clear C hA hp
        go_wp2_with fail
        refine CC.out.mono ?_
        rintro e w2 ⟨rfl, hb2⟩
        have HB2 := Lib.hid (HB1.out.trans (hb2.mono HB1.out.size))
        clear hb2
        go_wp2_with fail
        go_ret2
        exact PartPost.bad HA2.out HB2.out
      | some n =>
        have hn := pn_le hp
        have C := HNE.out w1
        rw [hp] at C
        have CC := Lib.hid (show Calls _ _ _ _ (fun e w' => e = .returned (.int .i64 (n : Int)) ∧ Below w1.heap.size w1 w') from C)
        by_cases h0 : n = 0
        · subst h0
          have hA := HA.out
          rw [if_pos ⟨rfl, by unfold psE; rw [hp]; decide⟩, show psE rb = 1 by unfold psE; rw [hp]; rfl] at hA
          have HA2 := Lib.hid hA
          clear C hA hp
          go_wp2_with fail
          refine CC.out.mono ?_
          rintro e w2 ⟨rfl, hb2⟩
          have HB2 := Lib.hid (HB1.out.trans (hb2.mono HB1.out.size))
          clear hb2
          rw [show ((0 : Nat) : Int) = 0 from rfl]
          go_wp2_with fail
          go_ret2
          exact PartPost.bad HA2.out HB2.out
        · have hv : psV rb = n := by unfold psV; rw [hp]; rfl
          have he : psE rb = 0 := by unfold psE; rw [hp]; simp [h0]
          have HV := Lib.hid hv
          have HE := Lib.hid he
          have e1 : ¬ (n : Int) < 0 := by omega
          have e2 : ¬ (n : Int) = 0 := by omega
          clear C hp hv he
          go_wp2_with fail
          refine CC.out.mono ?_
          rintro e w2 ⟨rfl, hb2⟩
          have HB2 := Lib.hid (HB1.out.trans (hb2.mono HB1.out.size))
          clear hb2
          go_wp2_with fail
          go_meet
          all_goals exact ⟨n, rfl, by omega, hn, by rw [if_pos rfl, HV.out], (fun h => h.2 HE.out), HB2.out⟩
  case rest =>
    obtain ⟨q, rfl, hq0, hq9, hq, hne, hbx⟩ := hcut
    have HA2 := Lib.hid (HA.out.trans (if_neg hne))
    have HQ := Lib.hid hq
    have HB2 := Lib.hid hbx
    clear hq hne hbx
    go_wp2_with fail
    refine (HLE.out _).mono ?_
    rintro e w3 ⟨rfl, rfl⟩
    go_wp2_with fail
    refine (HMO.out _).mono ?_
    rintro e w4 ⟨rfl, rfl⟩
    go_upto_if 35 with (fail)
    go_cut [10, 11] (fun f t wx => ptCut2 w (pb ra lo hi st) f t wx)
    case first =>
      by_cases hra : ra = [42]
      · have hS := HS1.out hra
        have PB := Lib.hid (HPB.out.trans (if_pos hra))
        clear hra
        go_wp2_with fail
        · exact absurd (hS.symm.trans ‹(!Ra.toList == [42]) = true›) (by decide)
        go_meet
        all_goals exact ⟨lo, hi, PB.out, rfl, rfl, HB2.out⟩
      · have hS := HS0.out hra
        have PB := Lib.hid (HPB.out.trans (if_neg hra))
        clear hra
        go_wp2_with fail
        rotate_left
        · exact absurd (hS.symm.trans ‹(!Ra.toList == [42]) = false›) (by decide)
        refine (HF2.out _).mono ?_
        rintro e w5 ⟨rfl, hb5⟩
        have HB5 := Lib.hid (HB2.out.trans (hb5.mono HB2.out.size))
        clear hb5
        go_wp2_with fail
        cases hp : pn sa with
        | none =>
          have C := HNA.out w5
          rw [hp] at C
          have CC := Lib.hid C
          have hA := HA2.out
          rw [PB.out, hp] at hA
          have HA3 := Lib.hid hA
          clear C hA hp
          refine CC.out.mono ?_
          rintro e w6 ⟨rfl, hb6⟩
          have HB6 := Lib.hid (HB5.out.trans (hb6.mono HB5.out.size))
          clear hb6
          go_wp2_with fail
          go_ret2
          exact PartPost.bad HA3.out HB6.out
        | some n =>
          have hn := pn_le hp
          have C := HNA.out w5
          rw [hp] at C
          have CC := Lib.hid (show Calls _ _ _ _ (fun e w' => e = .returned (.int .i64 (n : Int)) ∧ Below w5.heap.size w5 w') from C)
          have hB := PB.out
          rw [hp] at hB
          dsimp only at hB
          have PB2 := Lib.hid hB
          have e1 : ¬ (n : Int) < 0 := by omega
          clear C hp hB
          refine CC.out.mono ?_
          rintro e w6 ⟨rfl, hb6⟩
          have HB6 := Lib.hid (HB5.out.trans (hb6.mono HB5.out.size))
          clear hb6
          cases rf with
          | true =>
            cases hp2 : pn sb with
            | none =>
              have C := HNB.out w6
              rw [hp2] at C
              have CC := Lib.hid C
              have hA := HA2.out
              rw [PB2.out, hp2, if_pos rfl] at hA
              have HA3 := Lib.hid hA
              clear C hA hp2
              go_wp2_with fail
              refine CC.out.mono ?_
              rintro e w7 ⟨rfl, hb7⟩
              have HB7 := Lib.hid (HB6.out.trans (hb7.mono HB6.out.size))
              clear hb7
              go_wp2_with fail
              go_ret2
              exact PartPost.bad HA3.out HB7.out
            | some m =>
              have hm := pn_le hp2
              have C := HNB.out w6
              rw [hp2] at C
              have CC := Lib.hid (show Calls _ _ _ _ (fun e w' => e = .returned (.int .i64 (m : Int)) ∧ Below w6.heap.size w6 w') from C)
              have hB := PB2.out
              rw [hp2, if_pos rfl] at hB
              have PB3 := Lib.hid hB
              have e2 : ¬ (m : Int) < 0 := by omega
              clear C hp2 hB
              go_wp2_with fail
              refine CC.out.mono ?_
              rintro e w7 ⟨rfl, hb7⟩
              have HB7 := Lib.hid (HB6.out.trans (hb7.mono HB6.out.size))
              clear hb7
              go_wp2_with fail
              go_meet
              all_goals exact ⟨n, m, PB3.out, rfl, rfl, HB7.out⟩
          | false =>
            have PB3 := Lib.hid (PB2.out.trans (if_neg (by decide)))
            cases st with
            | true =>
              have PB4 := Lib.hid (PB3.out.trans (if_pos rfl))
              go_wp2_with fail
              go_meet
              all_goals exact ⟨n, hi, PB4.out, rfl, rfl, HB6.out⟩
            | false =>
              have PB4 := Lib.hid (PB3.out.trans (if_neg (by decide)))
              go_wp2_with fail
              go_meet
              all_goals exact ⟨n, n, PB4.out, rfl, rfl, HB6.out⟩
    case rest =>
      obtain ⟨a, b, hpb, rfl, rfl, hbx⟩ := hcut
      have hpl := pb_le hpb (by omega) (by omega)
      dsimp only at hpl
      have hA := HA2.out
      rw [hpb] at hA
      dsimp only at hA
      rw [← HQ.out] at hA
      have HA3 := Lib.hid hA
      have HB6 := Lib.hid hbx
      clear hA hpb hbx
      go_wp2_with fail
      refine (HLE.out _).mono ?_
      rintro e w7 ⟨rfl, rfl⟩
      by_cases c1 : a < lo
      · have HA4 := Lib.hid (HA3.out.trans (if_pos (Or.inl c1)))
        have d1 : (a : Int) < (lo : Int) := by omega
        go_wp2_with fail
        go_ret2
        exact PartPost.bad HA4.out HB6.out
      have d1 : ¬ (a : Int) < (lo : Int) := by omega
      go_wp2_with fail
      refine (HMO.out _).mono ?_
      rintro e w8 ⟨rfl, rfl⟩
      by_cases c2 : hi < b
      · have HA4 := Lib.hid (HA3.out.trans (if_pos (Or.inr (Or.inl c2))))
        have d2 : (hi : Int) < (b : Int) := by omega
        go_wp2_with fail
        go_ret2
        exact PartPost.bad HA4.out HB6.out
      have d2 : ¬ (hi : Int) < (b : Int) := by omega
      by_cases c3 : b < a
      · have HA4 := Lib.hid (HA3.out.trans (if_pos (Or.inr (Or.inr c3))))
        have d3 : (b : Int) < (a : Int) := by omega
        go_wp2_with fail
        go_ret2
        exact PartPost.bad HA4.out HB6.out
      have d3 : ¬ (b : Int) < (a : Int) := by omega
      have HA4 := Lib.hid (HA3.out.trans (if_neg (by omega)))
      obtain ⟨i0, hi0, hz0, hz1, hz2⟩ := info_parts Tryd.infoInt
      have HI := Lib.hid (And.intro hi0 (And.intro hz0 (And.intro hz1 hz2)))
      clear hi0 hz0 hz1 hz2
      go_wp2_with fail
      go_loopw [15, 16] (fun out n wr => ptRel w b q a out n wr) (fun _ n _ => b + 1 - (intOf n).toNat)
      case atStart => exact ⟨a, a, [], rfl, ApSt.zero b q a hq0, Nat.le_refl _, by omega, Nat.zero_le _, World.ownsRow_nil _ _ _ _, HB6.out⟩
      case round =>
        obtain ⟨wo, rfl⟩ : ∃ wo : World, wo = wr := ⟨_, rfl⟩
        obtain ⟨n, m, L, rfl, hst, hn1, hn2, hn3, own, hb⟩ := hrel
        have ST := Lib.hid hst
        have OWN := Lib.hid own
        have HB := Lib.hid hb
        obtain ⟨ao, cap, rfl⟩ := own_slK own
        clear hst own hb
        by_cases hnb : n ≤ b
        · have g1 : (n : Int) ≤ (b : Int) := by omega
          have g2 : (0 : Int) ≤ (n : Int) - (a : Int) := by omega
          have g3 : (0 : Int) < (q : Int) := by omega
          have hmod := ST.out.mod hn1 hq0
          have hcast : ((n : Int) - (a : Int)) % (q : Int) = (((n - a) % q : Nat) : Int) := by rw [Int.natCast_emod]; congr 1; omega
          by_cases e : (n - a) % q = 0
          · have g4 : ((n : Int) - (a : Int)) % (q : Int) = 0 := by rw [hcast, e]; rfl
            obtain rfl : n = m := hmod.1 e
            have ST2 := Lib.hid (ST.out.take hq0 hnb)
            clear hmod hcast e
            go_wp2_with (at_builtin; refine wpList_append_own_src _ rfl (.tmp 85) (.tmp 87) 65 65 rfl w.heap.size 3 i0 (.int .i64 0) 1 8 Tryd.underlying65 HI.out.1 HI.out.2.1 HI.out.2.2.1 HI.out.2.2.2 rfl _ L.length (numVs L) rfl (OWN.out.alloc _) _ 1 [.int .i64 (n : Int)] rfl (src_oneK Tryd.underlying65 wo _ rfl (fun u hu => by simp at hu; subst hu; rfl)) ?b1 ?b2 ?b3 ?next)
            case b1 => unfold maxLen; omega
            case b2 => omega
            case b3 => have := HB.out.size; simp; omega
            case next =>
              intro v2 w4 g4
              obtain ⟨a2, c2, rfl, own4, hb4, blk4⟩ := grew_oneK OWN.out HB.out.size (Nat.le_refl _) g4
              have RL := Lib.hid (show ptRel w b q a (.slice a2 (L.length + 1) c2) (.int .i64 ((n + 1 : Nat) : Int)) w4 from ⟨n + 1, n + q, L ++ [n], rfl, ST2.out, by omega, by omega, by simp; omega, by simpa [numVs] using own4, HB.out.trans hb4⟩)
              clear own4 hb4 blk4 g4
              go_wp2_with fail
              exact ⟨RL.out, by simp [intOf]; omega⟩
          · have g4 : ¬ ((n : Int) - (a : Int)) % (q : Int) = 0 := by rw [hcast]; omega
            have RL := Lib.hid (show ptRel w b q a (.slice ao L.length cap) (.int .i64 ((n + 1 : Nat) : Int)) wo from ⟨n + 1, m, L, rfl, ST.out.skip (fun h => e (hmod.2 h)), by omega, by omega, by omega, OWN.out, HB.out⟩)
            clear hmod hcast e
            go_wp2_with fail
            exact ⟨RL.out, by simp [intOf]; omega⟩
        · have g1 : ¬ (n : Int) ≤ (b : Int) := by omega
          have RL := Lib.hid (show PartPost w A (.returned (.tuple #[.slice ao L.length cap, .int .i64 0])) wo from by
            rw [HA4.out, ST.out.done (by omega)]
            exact ⟨ao, cap, rfl, Blk.own OWN.out, HB.out⟩)
          go_wp2_with fail
          go_ret2
          exact RL.out
end Go.Proofs.YthebkckcnmjehaaDoor
